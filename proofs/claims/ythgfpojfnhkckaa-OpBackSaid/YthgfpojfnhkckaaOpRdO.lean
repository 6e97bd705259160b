/-
  The document's Read. Written by op/gen/gen_rdo.py.
-/
import Derived.Test.YthgfpojfnhkckaaOpRdD
import Derived.Test.YthgfpojfnhkckaaOpPush
namespace Go.Proofs.Ythgfpojfnhkckaa
open Go.RowKit Go.BigFrame

def RdO (o : Option OpN) (pa : Option Addr) (pc : Nat) : Value := .tuple #[.agg (opV (o.getD zeroO) pa pc), .bool o.isSome]
def RdOPost (B : Nat) (o : Option OpN) (e : Ending) (w' : World) : Prop :=
  ∃ pa pc, e = .returned (RdO o pa pc) ∧ IAt pa (o.getD zeroO).preds w' ∧ ∀ a, pa = some a → B ≤ a.block
theorem RdOPost.none {B : Nat} {w' : World} : RdOPost B Option.none (.returned (.tuple #[.agg (opV zeroO Option.none 0), .bool false])) w' := ⟨Option.none, 0, rfl, .inl rfl, fun a h => by cases h⟩
theorem readO_bad {s : List UInt8} (h : ∀ a b p t, splitB s = some [a, b, p, t] → p.length % 32 = 0 → False) : readO s = none := by
  unfold readO
  split
  · rename_i a b p t hs
    rw [if_neg (fun hr => h a b p t hs hr)]
  · rfl
theorem readO_parts {s : List UInt8} {a b p t : List UInt8} (hs : splitB s = some [a, b, p, t]) (hb : allNum a = none ∨ allNum b = none ∨ readD t = none) : readO s = none := by
  unfold readO
  rw [hs]
  simp only
  split
  · split
    · rename_i x y d hx hy hd
      rcases hb with h | h | h
      · rw [h] at hx; cases hx
      · rw [h] at hy; cases hy
      · rw [h] at hd; cases hd
    · rfl
  · rfl
theorem readO_at {s : List UInt8} {a b p t : List UInt8} {x y : Nat} {d : DraftN} (hs : splitB s = some [a, b, p, t]) (hp : p.length % 32 = 0) (ha : allNum a = some x) (hb : allNum b = some y) (hd : readD t = some d) :
    readO s = if GoodO ⟨d, x, y, idsOf (p.length / 32) p⟩ then some ⟨d, x, y, idsOf (p.length / 32) p⟩ else none := by
  unfold readO
  rw [hs]
  simp only [ha, hb, hd, if_pos hp]
theorem getD_draft (t : List UInt8) : IdOk ((readD t).getD zeroD).ref ∧ ((readD t).getD zeroD).key.length ≤ 16 ∧ ((readD t).getD zeroD).val.length ≤ 64 := by
  cases h : readD t with
  | none => exact ⟨zeroI_ok, by decide, by decide⟩
  | some d =>
    obtain ⟨_, h2, h3, _⟩ := readD_some h
    exact ⟨h3, h2.2.2.2.1, h2.2.2.2.2.1⟩
theorem push_new {B : Nat} {L : List (List Nat)} {k : Nat} {pa : Option Addr} {pc : Nat} {w : World} (h : OwnI B 23 (.slice pa k pc) L w) : ∀ a, pa = some a → B ≤ a.block ∧ a.block < w.heap.size := by
  rintro a rfl
  exact World.ownsRow.lt h a.block rfl
set_option maxHeartbeats 8000000 in
set_option maxRecDepth 100000 in
theorem ref_readOp (s : List UInt8) (w : World) (hm : s.length ≤ 140737488351232) :
    Calls Try.prog 18 #[.string ⟨s.toArray⟩] w fun e w' => RdOPost w.heap.size (readO s) e w' ∧ Below w.heap.size w w' := by
  have hsz : (Try.prog.info? 28).map (·.size) = some (opV zeroO none 0).size := Try.sizeO
  have HS := Lib.hid hsz
  have HM := Lib.hid hm
  clear hsz hm
  go_enter Try.func18, Try.ntmps18
  go_upto_region 1 with (fail)
  have hx : Cells w.heap.size 28 (opV zeroO none 0) (w.alloc (.cells (opV zeroO none 0) 28)) := heap_alloc_new w _
  have hb : Below w.heap.size w (w.alloc (.cells (opV zeroO none 0) 28)) := (Below.refl _ _).alloc (Nat.le_refl _) _
  rw [zeroO_lit] at hx hb
  obtain ⟨w1, hw1⟩ : ∃ x, x = w.alloc (.cells (opV zeroO none 0) 28) := ⟨_, rfl⟩
  rw [zeroO_lit] at hw1
  rw [← hw1] at hx hb ⊢
  rw [← zeroO_lit] at hx
  have HX := Lib.hid hx
  have HB := Lib.hid hb
  clear hw1 hx hb
  go_wp2_with fail
  obtain ⟨q, hq⟩ : ∃ q, splitB s = q := ⟨_, rfl⟩
  have HL := Shut.mk hq
  have hcc := rsplit_any s w1 (by have := HM.out; omega)
  rw [hq] at hcc
  clear hq
  refine hcc.mono ?_
  rintro e w2 ⟨⟨v, rfl, ho⟩, hb⟩
  obtain ⟨ao, cq, rfl⟩ := ho.form
  have HX2 := Lib.hid (HX.out.below hb)
  have HB2 := Lib.hid (HB.out.trans (hb.mono HB.out.size))
  have HSA := Lib.hid (strsAt_own ho)
  clear hcc ho hb HX HB
  cases q with
  | none =>
    simp only [Option.getD_none, List.length_nil, Option.isSome_none]
    have HR := Shut.mk (readO_bad (s := s) (by intro k key val r h; rw [HL.out] at h; cases h))
    clear HSA
    go_upto_region 3 with (fail)
    refine wp_region_lit ?_
    refine wpList_build_val rfl 28 #[] rfl [] _ (by simp) built_op0 ?_
    simp only [Act.put, List.setIfInBounds_toArray, List.set_cons_zero, List.set_cons_succ]
    refine wpList_store_cells rfl 28 _ _ rfl rfl w.heap.size (opV zeroO none 0) (opV zeroO none 0) 28 rfl rfl HX2.out HS.out rfl (opV_all zeroO none 0) ?_
    intro w9 hc hb
    have HX9 := Lib.hid hc.out
    have HB9 := Lib.hid (show Below w.heap.size w w9 from But.toBelow HB2.out hb.out (Nat.le_refl _) HB2.out.size)
    clear hc hb HX2 HB2
    go_wp2_with fail
    refine bodyPost_ret (results_cells_tmp rfl _ _ w.heap.size (opV zeroO none 0) 28 _ _ rfl rfl HX9.out Try.underlying28 rfl HS.out) rfl ?_
    exact ⟨by rw [HR.out]; exact RdOPost.none, HB9.out⟩
  | some l =>
    simp only [Option.getD_some, Option.isSome_some] at HSA ⊢
    obtain ⟨n, hn⟩ : ∃ n, l.length = n := ⟨_, rfl⟩
    by_cases h4 : n = 4
    · rw [hn]
      subst h4
      obtain ⟨ta, tb, p, tt, rfl⟩ : ∃ a b c d, l = [a, b, c, d] := by
        match l, hn with
        | [a, b, c, d], _ => exact ⟨a, b, c, d, rfl⟩
      have HLR := Lib.hid (split_parts HL.out)
      obtain ⟨g, og, rfl, hg, c0, c1, c2, c3⟩ := strs4 HSA.out
      have HG := Lib.hid hg
      clear hn HSA hg
      obtain ⟨m, hm⟩ : ∃ m, p.length = m := ⟨_, rfl⟩
      have HMR := Shut.mk hm
      have HMB := Lib.hid (show m ≤ 262144 by rw [← hm]; exact HLR.out p (by simp))
      by_cases h32 : m % 32 = 0
      · have hrem : (m : Int).tmod 32 = 0 := by rw [show (m : Int).tmod 32 = ((m % 32 : Nat) : Int) from (Int.ofNat_tmod m 32).symm, h32]; rfl
        have HC0 := Lib.hid c0
        have HC1 := Lib.hid c1
        have HC2 := Lib.hid c2
        have HC3 := Lib.hid c3
        clear c0 c1 c3
        go_upto_region 4 with (fail)
        clear hm c2
        have c0 := HC0.out
        go_wp2_with fail
        refine (ref_number ta w2 (by have := HLR.out ta (by simp); omega)).mono ?_
        rintro e w3 ⟨x, rfl, hx, hb⟩
        have HNX := Lib.hid hx
        have HX3 := Lib.hid (HX2.out.below hb)
        have HB3 := Lib.hid (HB2.out.trans (hb.mono HB2.out.size))
        have c1 := (hb.cell (p := ⟨g, og + 1, none⟩) HG.out).trans HC1.out
        have HD2 := Lib.hid ((hb.cell (p := ⟨g, og + 2, none⟩) HG.out).trans HC2.out)
        have HD3 := Lib.hid ((hb.cell (p := ⟨g, og + 3, none⟩) HG.out).trans HC3.out)
        have HG3 := Lib.hid (Nat.lt_of_lt_of_le HG.out hb.size)
        clear c0 hx hb HX2 HB2 HC0 HC1 HC2 HC3 HG
        obtain ⟨bx, hbx⟩ : ∃ b, (allNum ta).isSome = b := ⟨_, rfl⟩
        have HBX := Shut.mk hbx
        rw [hbx]
        clear hbx
        go_wp2_with fail
        refine (ref_number tb w3 (by have := HLR.out tb (by simp); omega)).mono ?_
        rintro e w4 ⟨y, rfl, hy, hb⟩
        have HNY := Lib.hid hy
        have HX4 := Lib.hid (HX3.out.below hb)
        have HB4 := Lib.hid (HB3.out.trans (hb.mono HB3.out.size))
        have HE2 := Lib.hid ((hb.cell (p := ⟨g, og + 2, none⟩) HG3.out).trans HD2.out)
        have c3 := (hb.cell (p := ⟨g, og + 3, none⟩) HG3.out).trans HD3.out
        have HG4 := Lib.hid (Nat.lt_of_lt_of_le HG3.out hb.size)
        clear c1 hy hb HX3 HB3 HD2 HD3 HG3
        obtain ⟨by', hby⟩ : ∃ b, (allNum tb).isSome = b := ⟨_, rfl⟩
        have HBY := Shut.mk hby
        rw [hby]
        clear hby
        go_wp2_with fail
        refine (ref_readDraft tt w4 (by have := HLR.out tt (by simp); omega)).mono ?_
        rintro e w5 ⟨rfl, hb⟩
        have HX5 := Lib.hid (HX4.out.below hb)
        have HB5 := Lib.hid (HB4.out.trans (hb.mono HB4.out.size))
        have HF2 := Lib.hid ((hb.cell (p := ⟨g, og + 2, none⟩) HG4.out).trans HE2.out)
        have HG5 := Lib.hid (Nat.lt_of_lt_of_le HG4.out hb.size)
        clear c3 hb HX4 HB4 HE2 HG4
        unfold RdD
        obtain ⟨bz, hbz⟩ : ∃ b, (readD tt).isSome = b := ⟨_, rfl⟩
        have HBZ := Shut.mk hbz
        have HDF := Lib.hid (getD_draft tt)
        obtain ⟨d, hd⟩ : ∃ d, (readD tt).getD zeroD = d := ⟨_, rfl⟩
        have HDE := Shut.mk hd
        rw [hbz, hd]
        rw [hd] at HDF
        clear hbz hd
        have HSD := Lib.hid (show (Try.prog.info? 25).map (·.size) = some (draftV d).size by rw [draftV_size HDF.out.1.1]; exact Try.sizeD)
        have HSZ := Lib.hid (show (draftV zeroD).size = (draftV d).size by rw [draftV_size HDF.out.1.1]; rfl)
        have HZD := Lib.hid (show (Try.prog.info? 25).bind (·.zero) = some (.agg (draftL zeroD).toArray) by kernel_rfl)
        go_wp2_with (first
          | (refine wpList_alloc_of rfl 25 rfl (draftL zeroD) HZD.out ?_)
          | (refine wpList_store_cells rfl 25 _ _ rfl rfl w5.heap.size (draftV zeroD) (draftV d) 25 rfl rfl (heap_alloc_new w5 _) HSD.out HSZ.out (draftV_all d) ?_))
        intro w6 hc hb
        have hb6 : Below w5.heap.size w5 w6 := But.toBelow ((Below.refl _ w5).alloc (Nat.le_refl _) _) hb.out (Nat.le_refl _) (by rw [World.size_alloc]; exact Nat.le_succ _)
        have HV6 := Lib.hid hc.out
        have HX6 := Lib.hid (HX5.out.below hb6)
        have HB6 := Lib.hid (HB5.out.trans (hb6.mono HB5.out.size))
        have HF6 := Lib.hid ((hb6.cell (p := ⟨g, og + 2, none⟩) HG5.out).trans HF2.out)
        have HG6 := Lib.hid (Nat.lt_of_lt_of_le HG5.out hb6.size)
        have HVL := Lib.hid hc.out.lt
        obtain ⟨gd, hgd⟩ : ∃ gd, w5.heap.size = gd := ⟨_, rfl⟩
        rw [hgd] at HV6 HVL ⊢
        clear hc hb hb6 hgd HX5 HB5 HF2 HG5 HZD HSZ
        obtain ⟨o0, ho0⟩ : ∃ o : OpN, o = ⟨d, x, y, []⟩ := ⟨_, rfl⟩
        have HO0 := Shut.mk ho0
        have hor : o0.d.ref.length = 32 := by rw [ho0]; exact HDF.out.1.1
        have HBO := Lib.hid (show Try.prog.built 28 [(0, .agg (draftV d)), (1, .int .i64 x), (2, .int .i64 y)] = some (opV o0 none 0) by
          have h := built_op o0 hor (by rw [ho0])
          rw [ho0] at h ⊢
          exact h)
        have HSO := Lib.hid (show ∀ (o : OpN) (pa : Option Addr) (pc : Nat), o.d = d → (Try.prog.info? 28).map (·.size) = some (opV o pa pc).size from fun o pa pc h => by rw [opV_size (by rw [h]; exact HDF.out.1.1)]; exact Try.sizeO)
        have H59 := Lib.hid (show ∀ (o : OpN) (pa : Option Addr) (pc : Nat), o.d = d → (opV zeroO none 0).size = (opV o pa pc).size from fun o pa pc h => (show (opV zeroO none 0).size = 38 from rfl).trans (opV_size (by rw [h]; exact HDF.out.1.1)).symm)
        have HZO := Lib.hid (show (Try.prog.info? 28).bind (·.zero) = some (.agg (opL zeroO none 0).toArray) by kernel_rfl)
        clear hor ho0
        go_wp2_with (first
          | (refine wpList_load_cells rfl 25 _ rfl gd (draftV d) 25 _ rfl HV6.out Try.underlying25 rfl HSD.out ?_)
          | (refine wpList_build_val rfl 28 #[(0, .tmp 56), (1, .tmp 57), (2, .tmp 58)] rfl [(0, .agg (draftV d)), (1, .int .i64 x), (2, .int .i64 y)] _ (by rw [List.map_toArray]; rfl) HBO.out ?_)
          | (refine wpList_alloc_of rfl 28 rfl (opL zeroO none 0) HZO.out ?_)
          | (refine wpList_store_cells rfl 28 _ _ rfl rfl w6.heap.size (opV zeroO none 0) (opV o0 none 0) 28 rfl rfl (heap_alloc_new w6 _) (HSO.out o0 none 0 (by rw [HO0.out])) (H59.out o0 none 0 (by rw [HO0.out])) (opV_all o0 none 0) ?_))
        intro w7 hc hb
        have hb7 : Below w6.heap.size w6 w7 := But.toBelow ((Below.refl _ w6).alloc (Nat.le_refl _) _) hb.out (Nat.le_refl _) (by rw [World.size_alloc]; exact Nat.le_succ _)
        have HO7 := Lib.hid hc.out
        have HX7 := Lib.hid (HX6.out.below hb7)
        have HB7 := Lib.hid (HB6.out.trans (hb7.mono HB6.out.size))
        have HF7 := Lib.hid ((hb7.cell (p := ⟨g, og + 2, none⟩) HG6.out).trans HF6.out)
        have HG7 := Lib.hid (Nat.lt_of_lt_of_le HG6.out hb7.size)
        have HGO := Lib.hid (show w.heap.size < w6.heap.size from HX6.out.lt)
        have HGP := Lib.hid (show g ≠ w6.heap.size from Nat.ne_of_lt HG6.out)
        obtain ⟨go, hgo⟩ : ∃ go, w6.heap.size = go := ⟨_, rfl⟩
        rw [hgo] at HO7 HGO HGP ⊢
        clear hc hb hb7 hgo HX6 HB6 HF6 HG6 HZO HSD HBO HV6 HVL
        go_wp2_with fail
        have HMK := Lib.hid (show m = 32 * (m / 32) by omega)
        obtain ⟨KK, hKK⟩ : ∃ k, m / 32 = k := ⟨_, rfl⟩
        have HKE := Shut.mk hKK
        rw [hKK] at HMK
        have HK0 := Lib.hid (show KK ≤ 10000 by have := HMB.out; have := HMK.out; omega)
        clear hKK h32 hrem
        go_loopw [13] (fun i wq => ∃ k : Nat, k ≤ KK ∧ i = .int .i64 ((32 * k : Nat) : Int) ∧ ∃ pa pc, Cells go 28 (opV ⟨d, x, y, idsOf k p⟩ pa pc) wq ∧ OwnI w7.heap.size 23 (.slice pa k pc) (idsOf k p) wq ∧ But go w7 wq) (fun i _ => m - (intOf i).toNat)
        case atStart => exact ⟨0, Nat.zero_le _, rfl, none, 0, by have h := HO7.out; rw [HO0.out] at h; exact h, OwnI.nil _ _ _, But.refl _ _⟩
        case round =>
          obtain ⟨k, hk, rfl, pa, pc, hc, hw, hb⟩ := hrel
          have HC := Lib.hid hc
          have HW := Lib.hid hw
          have HBT := Lib.hid hb
          have HWL := Lib.hid hb.size
          obtain ⟨_, _, _, c37⟩ := op_cells HDF.out.1.1 hc
          rw [show (⟨d, x, y, idsOf k p⟩ : OpN).preds.length = k from idsOf_len k p] at c37
          have hgl := HO7.out.lt
          have HCP := Lib.hid (fun (w' : World) (q : Below w7.heap.size wr w') => show w'.cell? ⟨go, 37, none⟩ = some (.slice pa k pc) from (q.cell (p := ⟨go, 37, none⟩) hgl).trans c37)
          have c2 : wr.cell? ⟨g, og + 2, none⟩ = some (.string ⟨p.toArray⟩) := (World.cell?_of_block (w := w7) (a := ⟨g, og + 2, none⟩) (hb.block g HG7.out HGP.out)).trans HF7.out
          have HG7' := Lib.hid HG7.out
          have HCT := Lib.hid (fun (w' : World) (q : Below w7.heap.size wr w') => show w'.cell? ⟨g, og + 2, none⟩ = some (.string ⟨p.toArray⟩) from (q.cell (p := ⟨g, og + 2, none⟩) HG7.out).trans c2)
          have hm := HMR.out
          obtain ⟨j, hj⟩ : ∃ j, 32 * k = j := ⟨_, rfl⟩
          rw [hj]
          clear hc hw hb hgl c37
          by_cases hkK : k < KK
          · have hjm : j < m := by have := HMK.out; omega
            have hjmi : (j : Int) < (m : Int) := by omega
            have HJ := Lib.hid hj
            have HJM := Lib.hid (show j + 32 ≤ m by have := HMK.out; omega)
            clear hj
            go_upto_region 11 with (fail)
            clear c2 hjm hjmi
            obtain ⟨y0, hy0⟩ : ∃ l, (p.drop j).take 32 = l := ⟨_, rfl⟩
            have HYE := Shut.mk hy0
            have HYL := Lib.hid (show y0.length = 32 by rw [← hy0, List.length_take, List.length_drop, HMR.out]; have := HJM.out; omega)
            have HIY := Lib.hid (show IdOk (byteNs y0) from ⟨by rw [byteNs_len, HYL.out], byteNs_lt _⟩)
            have HPL := Lib.hid (show j + 32 ≤ p.length by rw [HMR.out]; exact HJM.out)
            have HID := Lib.hid (fun w' => ref_id y0 w' HYL.out)
            have HKM := Lib.hid (show (idsOf k p).length ≤ 1000000 by rw [idsOf_len]; have := HK0.out; omega)
            have HFA := Lib.hid (show ∀ w, (Instr.fieldAt 28 (.pointer (some ⟨go, 0, none⟩)) 3).run Try.prog w = .ok (.pointer (some ⟨go, 37, none⟩)) w from fun w => by go_simp)
            have HI2 := Lib.hid (show ∀ w, (Instr.indexAt 59 (.slice (some ⟨g, og, none⟩) 4 cq) (.int .i64 2)).run Try.prog w = .ok (.pointer (some ⟨g, og + 2, none⟩)) w from fun w => by go_simp)
            have HG1 := Lib.hid (show ∀ w, (eqGuard .add 3 (.tmp 74) (.const (.int .i64 32)) (.int .i64 (j : Int)) (.int .i64 32)).run Try.prog w = .ok () w from fun w => by go_simp)
            have HG2 := Lib.hid (show ∀ w, (binOp .add 3 (.int .i64 (j : Int)) (.int .i64 32)).run Try.prog w = .ok (.int .i64 ((j + 32 : Nat) : Int)) w from fun w => by
              have h1 := HJM.out
              have h2 := HMB.out
              go_simp
              rw [IntKind.wrap_i64]
              omega)
            have HBW := Lib.hid (fun w' => run_build_wide (P := Try.prog) 26 23 (nums .u8 (byteNs y0)) _ _ _ Try.underlying26 Try.infoI32 (by rw [nums_len, HIY.out.1]) (by decide) (by decide) w')
            have HD0 := Lib.hid (show Below w7.heap.size wr wr.drew from (Below.refl _ _).drew)
            clear hy0
            refine wp_region_free 13 (fun q V w' => Val q V 0 (.pointer (some ⟨go, 37, none⟩)) ∧ Val q V 1 (.slice pa k pc) ∧ Val q V 2 (.slice (some ⟨g, og, none⟩) 4 cq) ∧ Val q V 3 (.pointer (some ⟨g, og + 2, none⟩)) ∧ Val q V 4 (.string ⟨p.toArray⟩) ∧ Val q V 5 (.int .i64 (j : Int)) ∧ Val q V 6 (.int .i64 (j : Int)) ∧ Val q V 7 (.int .i64 ((j + 32 : Nat) : Int)) ∧ Val q V 8 (.string ⟨y0.toArray⟩) ∧ Val q V 9 (.agg (nums .u8 (byteNs y0)).toArray) ∧ Val q V 12 (.pointer (some ⟨go, 37, none⟩)) ∧ Below w7.heap.size wr w' ∧ PushInvK 10 11 (fun _ => True) (fun w' => OwnI w7.heap.size 23 (.slice pa k pc) (idsOf k p) w') (fun _ v w' => OwnI w7.heap.size 23 v (idsOf k p ++ [byteNs y0]) w') (nums .u8 (byteNs y0)) q V w' ∧ Late q 9 10) (fun | 0 => u68 | 1 => u69 | 2 => u70 | 3 => u71 | 4 => u72 | 5 => u73 | 6 => u74 | 7 => u75 | 8 => u76 | 9 => u77 | 10 => u78 | 11 => u79 | 12 => u80 | _ => undef) (by kernel_rfl) (by kernel_rfl) (by kernel_rfl) (by simp only [List.take_succ_cons, List.take_zero, putAll, Act.put, List.setIfInBounds_toArray, List.set_cons_zero, List.set_cons_succ]) ⟨Val.none, Val.none, Val.none, Val.none, Val.none, Val.none, Val.none, Val.none, Val.none, Val.none, Val.none, HD0.out, PushInvK.none trivial (OwnI.below HW.out ((Below.refl _ _).drew)), Late.none⟩ ?_ ?_
            · simp only [List.take_succ_cons, List.take_zero, putAll, Nat.zero_add, Nat.reduceAdd, Act.put, List.setIfInBounds_toArray, List.set_cons_zero, List.set_cons_succ]
              refine FreeSteps.cons ?_ (FreeSteps.cons ?_ (FreeSteps.cons ?_ (FreeSteps.cons ?_ (FreeSteps.cons ?_ (FreeSteps.cons ?_ (FreeSteps.cons ?_ (FreeSteps.cons ?_ (FreeSteps.cons ?_ (FreeSteps.cons ?_ (FreeSteps.cons ?_ (FreeSteps.cons ?_ (FreeSteps.cons ?_ (FreeSteps.nil)))))))))))))
              all_goals (refine FreeStep.fresh rfl ?_; rintro q V wq hr hu ⟨h0, h1, h2, h3, h4, h5, h6, h7, h8, h9, h12, hb, hp, hlt⟩ K hK)
              · exact op_fieldAt 28 (.tmp 12) 3 rfl _ _ rfl HFA.out (hK _ _ ⟨.same, h1.ne (by decide), h2.ne (by decide), h3.ne (by decide), h4.ne (by decide), h5.ne (by decide), h6.ne (by decide), h7.ne (by decide), h8.ne (by decide), h9.ne (by decide), h12.ne (by decide), hb, hp.ne (by decide) (by decide), hlt.ne (by decide)⟩)
              · exact op_load_cell 26 (.tmp 68) rfl _ _ (h0 (hr { on := 0, ground := .data } (by simp) rfl)) (HCP.out wq hb) Try.isAgg26 (hK _ _ ⟨h0.ne (by decide), .same, h2.ne (by decide), h3.ne (by decide), h4.ne (by decide), h5.ne (by decide), h6.ne (by decide), h7.ne (by decide), h8.ne (by decide), h9.ne (by decide), h12.ne (by decide), hb, hp.ne (by decide) (by decide), hlt.ne (by decide)⟩)
              · exact op_move (.tmp 4) rfl _ rfl (hK _ _ ⟨h0.ne (by decide), h1.ne (by decide), .same, h3.ne (by decide), h4.ne (by decide), h5.ne (by decide), h6.ne (by decide), h7.ne (by decide), h8.ne (by decide), h9.ne (by decide), h12.ne (by decide), hb, hp.ne (by decide) (by decide), hlt.ne (by decide)⟩)
              · exact op_indexAt 59 (.tmp 70) (.const (.int .i64 2)) rfl _ _ _ (h2 (hr { on := 2, ground := .data } (by simp) rfl)) rfl HI2.out (hK _ _ ⟨h0.ne (by decide), h1.ne (by decide), h2.ne (by decide), .same, h4.ne (by decide), h5.ne (by decide), h6.ne (by decide), h7.ne (by decide), h8.ne (by decide), h9.ne (by decide), h12.ne (by decide), hb, hp.ne (by decide) (by decide), hlt.ne (by decide)⟩)
              · exact op_load_cell 9 (.tmp 71) rfl _ _ (h3 (hr { on := 3, ground := .data } (by simp) rfl)) (HCT.out wq hb) Try.isAgg9 (hK _ _ ⟨h0.ne (by decide), h1.ne (by decide), h2.ne (by decide), h3.ne (by decide), .same, h5.ne (by decide), h6.ne (by decide), h7.ne (by decide), h8.ne (by decide), h9.ne (by decide), h12.ne (by decide), hb, hp.ne (by decide) (by decide), hlt.ne (by decide)⟩)
              · exact op_move (.tmp 13) rfl _ rfl (hK _ _ ⟨h0.ne (by decide), h1.ne (by decide), h2.ne (by decide), h3.ne (by decide), h4.ne (by decide), .same, h6.ne (by decide), h7.ne (by decide), h8.ne (by decide), h9.ne (by decide), h12.ne (by decide), hb, hp.ne (by decide) (by decide), hlt.ne (by decide)⟩)
              · exact op_move (.tmp 13) rfl _ rfl (hK _ _ ⟨h0.ne (by decide), h1.ne (by decide), h2.ne (by decide), h3.ne (by decide), h4.ne (by decide), h5.ne (by decide), .same, h7.ne (by decide), h8.ne (by decide), h9.ne (by decide), h12.ne (by decide), hb, hp.ne (by decide) (by decide), hlt.ne (by decide)⟩)
              · exact op_bin .add 3 3 (.tmp 74) (.const (.int .i64 32)) rfl _ _ _ (h6 (hr { on := 6, ground := .data } (by simp) rfl)) rfl HG1.out HG2.out (hK _ _ ⟨h0.ne (by decide), h1.ne (by decide), h2.ne (by decide), h3.ne (by decide), h4.ne (by decide), h5.ne (by decide), h6.ne (by decide), .same, h8.ne (by decide), h9.ne (by decide), h12.ne (by decide), hb, hp.ne (by decide) (by decide), hlt.ne (by decide)⟩)
              · refine op_slice_part 9 (.tmp 72) (.tmp 73) (.tmp 75) rfl p j 32 (h4 (hr { on := 4, ground := .data } (by simp) rfl)) (h5 (hr { on := 5, ground := .data } (by simp) rfl)) (h7 (hr { on := 7, ground := .data } (by simp) rfl)) Try.underlying9 HPL.out ?_
                rw [HYE.out]
                exact (hK _ _ ⟨h0.ne (by decide), h1.ne (by decide), h2.ne (by decide), h3.ne (by decide), h4.ne (by decide), h5.ne (by decide), h6.ne (by decide), h7.ne (by decide), .same, h9.ne (by decide), h12.ne (by decide), hb, hp.ne (by decide) (by decide), hlt.ne (by decide)⟩)
              · refine op_call Try.func35 rfl rfl rfl [.string ⟨y0.toArray⟩] (congrArg (fun x => [x]) (h8 (hr { on := 8, ground := .data } (by simp) rfl))) (HID.out wq) ?_
                rintro e w' ⟨rfl, hb'⟩
                exact ⟨_, rfl, (hK _ _ ⟨h0.ne (by decide), h1.ne (by decide), h2.ne (by decide), h3.ne (by decide), h4.ne (by decide), h5.ne (by decide), h6.ne (by decide), h7.ne (by decide), h8.ne (by decide), .same, h12.ne (by decide), hb.trans (hb'.mono (Nat.le_trans HWL.out hb.size)), hp.turn (hlt.not hu) (by decide) (by decide) trivial (fun hM => hM.below hb'), hlt.ne (by decide)⟩)⟩
              · exact op_build_wide 26 23 (.tmp 77) rfl (nums .u8 (byteNs y0)) (h9 (hr { on := 9, ground := .data } (by simp) rfl)) HBW.out (hK _ _ ⟨h0.ne (by decide), h1.ne (by decide), h2.ne (by decide), h3.ne (by decide), h4.ne (by decide), h5.ne (by decide), h6.ne (by decide), h7.ne (by decide), h8.ne (by decide), h9.ne (by decide), h12.ne (by decide), hb.alloc (Nat.le_trans HWL.out hb.size) _, hp.build hu (by decide) trivial (fun hM => hM.alloc _), Late.same (hr { on := 9, ground := .data } (by simp) rfl)⟩)
              · have h10 : q 10 = true := hr { on := 10, ground := .data } (by simp) rfl
                obtain ⟨gl, hv10, hcl⟩ := hp.lit h10 hu
                refine op_push_id (.tmp 69) (.tmp 78) 26 23 rfl w7.heap.size (.agg (nums .u8 (List.replicate 32 0)).toArray) rfl Try.underlying26 Try.infoI32 _ _ _ HIY.out ⟨gl, 0, none⟩ 1 (h1 (hr { on := 1, ground := .data } (by simp) rfl)) (hp.mid hu) hv10 hcl HKM.out (Nat.le_trans HWL.out hb.size) ?_
                intro v' w' ho' hb'
                exact (hK _ _ ⟨h0.ne (by decide), h1.ne (by decide), h2.ne (by decide), h3.ne (by decide), h4.ne (by decide), h5.ne (by decide), h6.ne (by decide), h7.ne (by decide), h8.ne (by decide), h9.ne (by decide), h12.ne (by decide), hb.trans hb', hp.push h10 hu trivial ho', hlt.ne (by decide)⟩)
              · exact op_fieldAt 28 (.tmp 12) 3 rfl _ _ rfl HFA.out (hK _ _ ⟨h0.ne (by decide), h1.ne (by decide), h2.ne (by decide), h3.ne (by decide), h4.ne (by decide), h5.ne (by decide), h6.ne (by decide), h7.ne (by decide), h8.ne (by decide), h9.ne (by decide), .same, hb, hp.ne (by decide) (by decide), hlt.ne (by decide)⟩)
            rintro q V wq hall ⟨h0, h1, h2, h3, h4, h5, h6, h7, h8, h9, h12, hb, hp, hlt⟩
            have v0 := h0 (hall 0 (by decide))
            have v1 := h1 (hall 1 (by decide))
            have v2 := h2 (hall 2 (by decide))
            have v3 := h3 (hall 3 (by decide))
            have v4 := h4 (hall 4 (by decide))
            have v5 := h5 (hall 5 (by decide))
            have v6 := h6 (hall 6 (by decide))
            have v7 := h7 (hall 7 (by decide))
            have v8 := h8 (hall 8 (by decide))
            have v9 := h9 (hall 9 (by decide))
            obtain ⟨u10, v10⟩ : ∃ v, V 10 = v := ⟨_, rfl⟩
            obtain ⟨u11, v11⟩ : ∃ v, V 11 = v := ⟨_, rfl⟩
            have v12 := h12 (hall 12 (by decide))
            obtain ⟨wa, _, how⟩ := hp.fin (hall 11 (by decide))
            rw [v11] at how
            simp only [List.take_succ_cons, List.take_zero, List.drop_succ_cons, List.drop_zero, putAll, Nat.zero_add, Nat.reduceAdd, v0, v1, v2, v3, v4, v5, v6, v7, v8, v9, v10, v11, v12, Act.put, List.setIfInBounds_toArray, List.set_cons_zero, List.set_cons_succ]
            clear h0 h1 h2 h3 h4 h5 h6 h7 h8 h9 h12 v0 v1 v2 v3 v4 v5 v6 v7 v8 v9 v10 v11 v12 hall
            have HNB := Lib.hid hb
            have HNW := Lib.hid how
            clear hb how hp hlt HID HFA HI2 HG1 HG2 HBW HD0
            have HWQ := Lib.hid (show w7.heap.size ≤ wq.heap.size from Nat.le_trans HWL.out HNB.out.size)
            have HCQ := Lib.hid (show Cells go 28 (opV ⟨d, x, y, idsOf k p⟩ pa pc) wq from (HNB.out.block go HO7.out.lt).trans HC.out)
            have hsn : idsOf k p ++ [byteNs y0] = idsOf (k + 1) p := by rw [idsOf_snoc, HJ.out, HYE.out]
            rw [hsn] at HNW
            obtain ⟨pa', pc', hu11⟩ := HNW.out.form
            rw [idsOf_len] at hu11
            subst hu11
            have c37 : wq.cell? ⟨go, 37, none⟩ = some (.slice pa k pc) := HCP.out wq HNB.out
            have f37 := HCQ.out.frozen 37
            have hjb : j ≤ 262144 := by have := HJM.out; have := HMB.out; omega
            have HCN := Lib.hid (HCQ.out.set 37 (.slice pa' (k + 1) pc'))
            rw [opV_preds HDF.out.1.1 (idsOf_len (k + 1) p)] at HCN
            have HBN := Lib.hid (show But go w7 (wq.setCell ⟨go, 37, none⟩ (.slice pa' (k + 1) pc')) from But.setCell ⟨HNB.out.os.trans HBT.out.os, HNB.out.tape.trans HBT.out.tape, HNB.out.output.trans HBT.out.output, HWQ.out, fun i hi hne => (HNB.out.block i hi).trans (HBT.out.block i hi hne)⟩ _ _)
            have HWN := Lib.hid (HNW.out.but ((But.refl go wq).setCell 37 (.slice pa' (k + 1) pc')) (fun g hg e => by subst e; have h1 := (World.ownsRow.lt HNW.out go hg).1; have h2 := HO7.out.lt; omega))
            clear hsn hm HNW HCQ HC HW HBT HCP HCT HNB
            go_wp2_with fail
            exact ⟨⟨k + 1, by omega, by rw [← HJ.out]; go_num, pa', pc', HCN.out, HWN.out, HBN.out⟩, by simp [intOf]; have := HJM.out; omega⟩
          · obtain rfl : k = KK := by omega
            obtain rfl : j = m := by have := HMK.out; omega
            have HXR := Lib.hid (HX7.out.but HBT.out (Nat.ne_of_lt HGO.out))
            have HBR := Lib.hid (show Below w.heap.size w wr from But.toBelow HB7.out HBT.out (Nat.le_of_lt HGO.out) HB7.out.size)
            have HWS := Lib.hid HX7.out.lt
            clear HX7 HF7 HCP HCT HO0
            cases bx with
            | false =>
              have HR := Shut.mk (readO_parts HL.out (.inl (by have := HBX.out; simpa using this)))
              clear HC
              go_upto_region 13 with (fail)
              refine wp_region_lit ?_
              refine wpList_build_val rfl 28 #[] rfl [] _ (by simp) built_op0 ?_
              simp only [Act.put, List.setIfInBounds_toArray, List.set_cons_zero, List.set_cons_succ]
              refine wpList_store_cells rfl 28 _ _ rfl rfl w.heap.size (opV zeroO none 0) (opV zeroO none 0) 28 rfl rfl HXR.out HS.out rfl (opV_all zeroO none 0) ?_
              intro w9 hc hb
              have HX9 := Lib.hid hc.out
              have HB9 := Lib.hid (show Below w.heap.size w w9 from But.toBelow HBR.out hb.out (Nat.le_refl _) HBR.out.size)
              clear hc hb HXR HBR
              go_wp2_with fail
              refine bodyPost_ret (results_cells_tmp rfl _ _ w.heap.size (opV zeroO none 0) 28 _ _ rfl rfl HX9.out Try.underlying28 rfl HS.out) rfl ?_
              exact ⟨by rw [HR.out]; exact RdOPost.none, HB9.out⟩
            | true =>
              cases by' with
              | false =>
                have HR := Shut.mk (readO_parts HL.out (.inr (.inl (by have := HBY.out; simpa using this))))
                clear HC
                go_upto_region 13 with (fail)
                refine wp_region_lit ?_
                refine wpList_build_val rfl 28 #[] rfl [] _ (by simp) built_op0 ?_
                simp only [Act.put, List.setIfInBounds_toArray, List.set_cons_zero, List.set_cons_succ]
                refine wpList_store_cells rfl 28 _ _ rfl rfl w.heap.size (opV zeroO none 0) (opV zeroO none 0) 28 rfl rfl HXR.out HS.out rfl (opV_all zeroO none 0) ?_
                intro w9 hc hb
                have HX9 := Lib.hid hc.out
                have HB9 := Lib.hid (show Below w.heap.size w w9 from But.toBelow HBR.out hb.out (Nat.le_refl _) HBR.out.size)
                clear hc hb HXR HBR
                go_wp2_with fail
                refine bodyPost_ret (results_cells_tmp rfl _ _ w.heap.size (opV zeroO none 0) 28 _ _ rfl rfl HX9.out Try.underlying28 rfl HS.out) rfl ?_
                exact ⟨by rw [HR.out]; exact RdOPost.none, HB9.out⟩
              | true =>
                cases bz with
                | false =>
                  have HR := Shut.mk (readO_parts HL.out (.inr (.inr (by have := HBZ.out; simpa using this))))
                  clear HC
                  go_upto_region 13 with (fail)
                  refine wp_region_lit ?_
                  refine wpList_build_val rfl 28 #[] rfl [] _ (by simp) built_op0 ?_
                  simp only [Act.put, List.setIfInBounds_toArray, List.set_cons_zero, List.set_cons_succ]
                  refine wpList_store_cells rfl 28 _ _ rfl rfl w.heap.size (opV zeroO none 0) (opV zeroO none 0) 28 rfl rfl HXR.out HS.out rfl (opV_all zeroO none 0) ?_
                  intro w9 hc hb
                  have HX9 := Lib.hid hc.out
                  have HB9 := Lib.hid (show Below w.heap.size w w9 from But.toBelow HBR.out hb.out (Nat.le_refl _) HBR.out.size)
                  clear hc hb HXR HBR
                  go_wp2_with fail
                  refine bodyPost_ret (results_cells_tmp rfl _ _ w.heap.size (opV zeroO none 0) 28 _ _ rfl rfl HX9.out Try.underlying28 rfl HS.out) rfl ?_
                  exact ⟨by rw [HR.out]; exact RdOPost.none, HB9.out⟩
                | true =>
                  obtain ⟨xx, hxx⟩ := Option.isSome_iff_exists.1 HBX.out
                  obtain rfl := HNX.out _ hxx
                  obtain ⟨yy, hyy⟩ := Option.isSome_iff_exists.1 HBY.out
                  obtain rfl := HNY.out _ hyy
                  obtain ⟨dd, hdd⟩ := Option.isSome_iff_exists.1 HBZ.out
                  have hde : dd = d := by have := HDE.out; rw [hdd] at this; exact this
                  subst hde
                  obtain ⟨o, ho⟩ : ∃ o : OpN, o = ⟨dd, x, y, idsOf k p⟩ := ⟨_, rfl⟩
                  have HR0 := Shut.mk (show readO s = if GoodO o then some o else none by
                    have h := readO_at HL.out (by rw [HMR.out]; have := HMK.out; omega) hxx hyy hdd
                    rw [show p.length / 32 = k by rw [HMR.out]; have := HMK.out; omega, ← ho] at h
                    exact h)
                  have hpl : p.length = 32 * k := by rw [HMR.out]; exact HMK.out
                  have hids := idsOf_ok k p hpl
                  have hia := HW.out.at hids
                  have HNEW := Lib.hid (push_new HW.out)
                  have hc2 := HC.out
                  have hod : o.d = dd := by rw [ho]
                  have hop : o.preds = idsOf k p := by rw [ho]
                  rw [← ho] at hc2
                  rw [← hop] at hids hia
                  have hok : o.Ok := ⟨by rw [hod]; exact HDF.out.1, hids⟩
                  have HIA := Lib.hid hia
                  have HCO := Lib.hid hc2
                  have hkl := HDF.out.2.1
                  have hvl := HDF.out.2.2
                  have hnl : o.preds.length ≤ 140737488351232 := by rw [hop, idsOf_len]; have := HK0.out; omega
                  have HGD := Lib.hid (ref_good o pa pc wr hok HIA.out (by rw [hod]; omega) (by rw [hod]; omega) hnl)
                  have HSX := Lib.hid (HSO.out o pa pc hod)
                  have HSY := Lib.hid (H59.out o pa pc hod)
                  have HWO := Lib.hid (Nat.le_of_lt HWS.out)
                  clear HBX HBY HBZ HNX HNY HDE hxx hyy hdd ho hpl hids hia hc2 hod hop hok hkl hvl hnl HC HW HBT HB7 HL HMR HMK HMB HK0 HKE HLR HDF HG7 HG7' HGO HGP HWL HSO H59 HO7
                  go_wp2_with (refine wpList_load_cells_want (by rfl) 28 _ rfl go (opV o pa pc) 28 _ rfl HCO.out Try.underlying28 rfl HSX.out ?_)
                  refine HGD.out.mono ?_
                  rintro e w8 ⟨rfl, hb⟩
                  have HC8 := Lib.hid (HCO.out.below hb)
                  have HX8 := Lib.hid (HXR.out.below hb)
                  have HI8 := Lib.hid (HIA.out.below hb)
                  have HB8 := Lib.hid (HBR.out.trans (hb.mono HBR.out.size))
                  clear hb HCO HXR HIA HBR HGD
                  by_cases hgd : GoodO o
                  · rw [decide_eq_true hgd]
                    have HR := Shut.mk (HR0.out.trans (if_pos hgd))
                    clear hgd HR0
                    go_upto_region 14 with (fail)
                    refine wp_region_lit ?_
                    refine wpList_load_cells rfl 28 _ rfl go (opV o pa pc) 28 _ rfl HC8.out Try.underlying28 rfl HSX.out ?_
                    simp only [Act.put, List.setIfInBounds_toArray, List.set_cons_zero, List.set_cons_succ]
                    refine wpList_store_cells rfl 28 _ _ rfl rfl w.heap.size (opV zeroO none 0) (opV o pa pc) 28 rfl rfl HX8.out HSX.out HSY.out (opV_all o pa pc) ?_
                    intro w9 hc hb
                    have HX9 := Lib.hid hc.out
                    have HB9 := Lib.hid (show Below w.heap.size w w9 from But.toBelow HB8.out hb.out (Nat.le_refl _) HB8.out.size)
                    have HI9 := Lib.hid (HI8.out.grown (row := some w.heap.size) ⟨hb.out.os, hb.out.tape, hb.out.output, hb.out.size, fun i hi hne => hb.out.block i hi (fun e => hne (by rw [e]))⟩ (fun a ha _ e => by have h1 := (HNEW.out a ha).1; have h2 := HX8.out.lt; have h3 := HWS.out; simp only [Option.some.injEq] at e; omega))
                    clear hc hb HX8 HB8 HI8 HC8
                    go_wp2_with fail
                    refine bodyPost_ret (results_cells_tmp rfl _ _ w.heap.size (opV o pa pc) 28 _ _ rfl rfl HX9.out Try.underlying28 rfl HSX.out) rfl ?_
                    exact ⟨by rw [HR.out]; exact ⟨pa, pc, rfl, HI9.out, fun a ha => Nat.le_trans HWO.out (HNEW.out a ha).1⟩, HB9.out⟩
                  · rw [decide_eq_false hgd]
                    have HR := Shut.mk (HR0.out.trans (if_neg hgd))
                    clear hgd HR0 HC8 HI8
                    go_upto_region 13 with (fail)
                    refine wp_region_lit ?_
                    refine wpList_build_val rfl 28 #[] rfl [] _ (by simp) built_op0 ?_
                    simp only [Act.put, List.setIfInBounds_toArray, List.set_cons_zero, List.set_cons_succ]
                    refine wpList_store_cells rfl 28 _ _ rfl rfl w.heap.size (opV zeroO none 0) (opV zeroO none 0) 28 rfl rfl HX8.out HS.out rfl (opV_all zeroO none 0) ?_
                    intro w9 hc hb
                    have HX9 := Lib.hid hc.out
                    have HB9 := Lib.hid (show Below w.heap.size w w9 from But.toBelow HB8.out hb.out (Nat.le_refl _) HB8.out.size)
                    clear hc hb HX8 HB8
                    go_wp2_with fail
                    refine bodyPost_ret (results_cells_tmp rfl _ _ w.heap.size (opV zeroO none 0) 28 _ _ rfl rfl HX9.out Try.underlying28 rfl HS.out) rfl ?_
                    exact ⟨by rw [HR.out]; exact RdOPost.none, HB9.out⟩
      · obtain ⟨r, hr⟩ : ∃ r, m % 32 = r := ⟨_, rfl⟩
        have hrem : (m : Int).tmod 32 = (r : Int) := by rw [show (m : Int).tmod 32 = ((m % 32 : Nat) : Int) from (Int.ofNat_tmod m 32).symm, hr]
        have hr0 : ¬ r = 0 := by omega
        have hr1 : ((r : Int) != 0) = true := by simp; omega
        have HR := Shut.mk (readO_bad (s := s) (by intro a b c d h hd; rw [HL.out] at h; simp only [Option.some.injEq, List.cons.injEq, and_true] at h; obtain ⟨rfl, rfl, rfl, rfl⟩ := h; exact h32 (by rw [← HMR.out]; exact hd)))
        clear c0 c1 c3 h32 hr
        go_upto_region 3 with (fail)
        refine wp_region_lit ?_
        refine wpList_build_val rfl 28 #[] rfl [] _ (by simp) built_op0 ?_
        simp only [Act.put, List.setIfInBounds_toArray, List.set_cons_zero, List.set_cons_succ]
        refine wpList_store_cells rfl 28 _ _ rfl rfl w.heap.size (opV zeroO none 0) (opV zeroO none 0) 28 rfl rfl HX2.out HS.out rfl (opV_all zeroO none 0) ?_
        intro w9 hc hb
        have HX9 := Lib.hid hc.out
        have HB9 := Lib.hid (show Below w.heap.size w w9 from But.toBelow HB2.out hb.out (Nat.le_refl _) HB2.out.size)
        clear hc hb HX2 HB2
        go_wp2_with fail
        refine bodyPost_ret (results_cells_tmp rfl _ _ w.heap.size (opV zeroO none 0) 28 _ _ rfl rfl HX9.out Try.underlying28 rfl HS.out) rfl ?_
        exact ⟨by rw [HR.out]; exact RdOPost.none, HB9.out⟩
    · have hn4 : ((n : Int) == 4) = false := by simp; omega
      have HR := Shut.mk (readO_bad (s := s) (by intro a b c d h hd; rw [HL.out] at h; simp only [Option.some.injEq] at h; subst h; exact h4 (by rw [← hn]; rfl)))
      rw [hn]
      clear HSA hn
      go_upto_region 3 with (fail)
      refine wp_region_lit ?_
      refine wpList_build_val rfl 28 #[] rfl [] _ (by simp) built_op0 ?_
      simp only [Act.put, List.setIfInBounds_toArray, List.set_cons_zero, List.set_cons_succ]
      refine wpList_store_cells rfl 28 _ _ rfl rfl w.heap.size (opV zeroO none 0) (opV zeroO none 0) 28 rfl rfl HX2.out HS.out rfl (opV_all zeroO none 0) ?_
      intro w9 hc hb
      have HX9 := Lib.hid hc.out
      have HB9 := Lib.hid (show Below w.heap.size w w9 from But.toBelow HB2.out hb.out (Nat.le_refl _) HB2.out.size)
      clear hc hb HX2 HB2
      go_wp2_with fail
      refine bodyPost_ret (results_cells_tmp rfl _ _ w.heap.size (opV zeroO none 0) 28 _ _ rfl rfl HX9.out Try.underlying28 rfl HS.out) rfl ?_
      exact ⟨by rw [HR.out]; exact RdOPost.none, HB9.out⟩
end Go.Proofs.Ythgfpojfnhkckaa
