/-
  The developers' ReadBatch.
-/
import Derived.Test.YthgfpojfnhkckaaOpDro
import Derived.Test.YthgfpojfnhkckaaOpRdB
namespace Go.Proofs.Ythgfpojfnhkckaa
open Go.RowKit Go.BigFrame

theorem zeroO_len : (opL zeroO none 0).length = 38 := rfl
theorem toList_flatten_replicate (n : Nat) (z : List Value) (h : z.length = 38) : ∀ j, j < n * 38 → (List.replicate n z).flatten[j]? = z[j % 38]? := fun j hj => by
  have hW : Wide 38 (List.replicate n z) := fun x hx => by rw [(List.mem_replicate.1 hx).2]; exact h
  have h1 := flat_get hW (i := j / 38) (j := j % 38) (by rw [List.length_replicate]; omega) (Nat.mod_lt _ (by decide))
  rw [show 38 * (j / 38) + j % 38 = j by omega] at h1
  rw [h1, List.getD_eq_getElem?_getD, List.getElem?_replicate, if_pos (by omega)]
  rfl
theorem madeCells_ops (n : Nat) : (madeCells (Value.agg (opV zeroO none 0)).cells (n * 38)).toList = (List.replicate n (opL zeroO none 0)).flatten := by
  have hW : Wide 38 (List.replicate n (opL zeroO none 0)) := fun x hx => by rw [(List.mem_replicate.1 hx).2]; rfl
  refine List.ext_getElem? fun j => ?_
  by_cases hj : j < n * 38
  · rw [toList_flatten_replicate n _ rfl j hj]
    have hc : (Value.agg (opV zeroO none 0)).cells = (opL zeroO none 0).toArray := rfl
    have hl : j < (madeCells (Value.agg (opV zeroO none 0)).cells (n * 38)).toList.length := by simp [madeCells]; omega
    rw [List.getElem?_eq_getElem hl]
    simp only [madeCells, hc, Array.getElem_toList, Array.getElem_map, Array.getElem_range, List.size_toArray, zeroO_len]
    rw [getElem!_pos _ _ (by rw [List.size_toArray, zeroO_len]; exact Nat.mod_lt _ (by decide)), List.getElem_toArray, List.getElem?_eq_getElem (by rw [zeroO_len]; exact Nat.mod_lt _ (by decide))]
  · rw [List.getElem?_eq_none (by simp [madeCells]; omega), List.getElem?_eq_none (by rw [flat_len hW, List.length_replicate]; omega)]
theorem OwnO.made {B g n : Nat} {e : TypeId} {w : World} (h : w.ownsRow B e 38 (.slice (some ⟨g, 0, none⟩) n n) n (madeCells (Value.agg (opV zeroO none 0)).cells (n * 38)).toList) : OwnO B e (.slice (some ⟨g, 0, none⟩) n n) (List.replicate n zeroO) w := by
  rw [madeCells_ops] at h
  refine ⟨List.replicate n (opL zeroO none 0), by rw [List.length_replicate]; exact h, fun x hx => by rw [(List.mem_replicate.1 hx).2]; rfl, by simp, fun i x hx => ?_⟩
  have hi : i < n := by have := (List.getElem?_eq_some_iff.1 hx).1; simpa using this
  rw [List.getElem?_replicate, if_pos hi] at hx
  cases hx
  exact ⟨none, 0, by rw [List.getElem?_replicate, if_pos hi], .inl rfl, fun a ha => by cases ha⟩
theorem OwnO.set {B g n c i : Nat} {e : TypeId} {L : List OpN} {w : World} (hn : n = L.length) (h : OwnO B e (.slice (some ⟨g, 0, none⟩) n c) L w) (hi : i < n) (y : OpN) (pa : Option Addr) (pc : Nat) (hy : y.d.ref.length = 32) (hpa : IAt pa y.preds w) (hne : ∀ a, pa = some a → y.preds ≠ [] → g ≠ a.block) :
    OwnO B e (.slice (some ⟨g, 0, none⟩) n c) (L.set i y) (w.setCells g (38 * i) (opL y pa pc)) := by
  subst hn
  obtain ⟨C, h1, h2, h3, h4⟩ := h
  have hb := But.cells (opL y pa pc) (38 * i) w (But.refl g w)
  have hgr : w.grownBy (w.setCells g (38 * i) (opL y pa pc)) (some g) := ⟨hb.os, hb.tape, hb.output, hb.size, fun k hk hne => hb.block k hk (fun e => hne (by rw [e]))⟩
  have h5 := ownsRow_layV (opL y pa pc) C.flatten (38 * i) w h1
  rw [← flat_set (by decide) h2 (by omega) (opL_len hy)] at h5
  refine ⟨C.set i (opL y pa pc), by rw [List.length_set]; exact h5, h2.set i (opL_len hy), by rw [List.length_set, List.length_set, h3], fun j x hx => ?_⟩
  by_cases hj : j = i
  · subst hj
    rw [List.getElem?_set_self hi] at hx
    cases hx
    refine ⟨pa, pc, by rw [List.getElem?_set_self (by omega)], hpa.grown hgr (fun a ha h0 e => hne a ha h0 (Option.some.inj e)), fun a ha h0 e => hne a ha h0 (Option.some.inj e)⟩
  · rw [List.getElem?_set_ne (Ne.symm hj)] at hx
    obtain ⟨pa', pc', q1, q2, q3⟩ := h4 j x hx
    exact ⟨pa', pc', by rw [List.getElem?_set_ne (Ne.symm hj)]; exact q1, q2.grown hgr (fun a ha h0 e => q3 a ha h0 e), q3⟩
theorem OwnO.there {B g n c i : Nat} {e : TypeId} {L : List OpN} {w : World} (hn : n = L.length) (h : OwnO B e (.slice (some ⟨g, 0, none⟩) n c) L w) (hi : i < n) : w.there g (38 * i) 38 := by
  subst hn
  obtain ⟨C, h1, h2, h3, _⟩ := h
  intro j hj
  have hlt : 38 * i + j < L.length * 38 := by omega
  exact ⟨by rw [World.ownsRow.cellAt h1 (38 * i + j) hlt, List.getElem?_eq_getElem (by rw [flat_len h2, h3]; exact hlt)]; rfl, World.ownsRow.frozenAt h1 (38 * i + j)⟩
def DrBPost (B : Nat) (e : TypeId) (o : Option (List OpN)) (y : Ending) (w' : World) : Prop := ∃ v, y = .returned (.tuple #[v, .int .i64 (if o.isSome then 0 else 4)]) ∧ OwnO B e v (o.getD []) w'
/-- What has been read, and the rest. -/
def partO (L : List OpN) (n : Nat) : List OpN := L ++ List.replicate (n - L.length) zeroO
theorem partO_len {L : List OpN} {n : Nat} (h : L.length ≤ n) : (partO L n).length = n := by
  rw [partO, List.length_append, List.length_replicate]
  omega
theorem partO_set {L : List OpN} {n : Nat} (h : L.length < n) (y : OpN) : (partO L n).set L.length y = partO (L ++ [y]) n := by
  rw [partO, partO, List.set_append_right _ _ (Nat.le_refl _), Nat.sub_self, show n - L.length = (n - (L ++ [y]).length) + 1 by rw [List.length_append, List.length_singleton]; omega, List.replicate_succ, List.set_cons_zero, List.append_assoc]
  rfl
set_option maxHeartbeats 8000000 in
set_option maxRecDepth 100000 in
theorem dev_readBatch (s : List UInt8) (w : World) (hm : s.length ≤ 1000000) :
    Calls Try.prog 19 #[.string ⟨s.toArray⟩] w fun e w' => DrBPost w.heap.size 28 (readL s) e w' ∧ Below w.heap.size w w' := by
  have HM := Lib.hid hm
  clear hm
  go_enter Try.func19, Try.ntmps19
  go_wp2_with fail
  obtain ⟨q, hq⟩ : ∃ q, splitB s = q := ⟨_, rfl⟩
  have HL := Shut.mk hq
  have hcc := split_any s w (by have := HM.out; omega)
  rw [hq] at hcc
  clear hq
  refine hcc.mono ?_
  rintro e w2 ⟨⟨v, rfl, ho⟩, hb⟩
  obtain ⟨ao, cq, rfl⟩ := ho.form
  have HB2 := Lib.hid hb
  have HSA := Lib.hid (strsAt_own ho)
  clear hcc ho hb
  cases q with
  | none =>
    simp only [Option.getD_none, List.length_nil, Option.isSome_none]
    have HR := Shut.mk (show readL s = none by rw [readL, HL.out])
    go_wp2_with fail
    go_ret2
    exact ⟨⟨_, by rw [HR.out]; rfl, by rw [HR.out]; exact OwnO.nil _ _ _⟩, HB2.out⟩
  | some l =>
    simp only [Option.getD_some, Option.isSome_some] at HSA ⊢
    obtain ⟨n, hn⟩ : ∃ n, l.length = n := ⟨_, rfl⟩
    have HN := Shut.mk hn
    rw [hn]
    clear hn
    have HLR := Lib.hid (split_parts HL.out)
    by_cases h8 : 8 < n
    · have h8i : decide ((8 : Int) < (n : Int)) = true := decide_eq_true (by omega)
      have HR := Shut.mk (show readL s = none by rw [readL, HL.out]; exact if_neg (by rw [HN.out]; omega))
      go_wp2_with fail
      go_ret2
      exact ⟨⟨_, by rw [HR.out]; rfl, by rw [HR.out]; exact OwnO.nil _ _ _⟩, HB2.out⟩
    · have h8i : decide ((8 : Int) < (n : Int)) = false := decide_eq_false (by omega)
      have HR0 := Shut.mk (show readL s = readAll l by rw [readL, HL.out]; exact if_pos (by rw [HN.out]; omega))
      have HZO := Lib.hid (show (Try.prog.info? 28).bind (·.zero) = some (.agg (opL zeroO none 0).toArray) by kernel_rfl)
      obtain ⟨bytes, hby, hinfo⟩ := Try.infoO38
      obtain ⟨i0, hi, hz0, hz1, hz2⟩ := info_parts hinfo
      have HIF := Lib.hid hi
      have HZ0 := Lib.hid hz0
      have HZ1 := Lib.hid hz1
      have HZ2 := Lib.hid (show i0.bytes * n ≤ 281474976710656 by rw [hz2]; exact Nat.le_trans (Nat.mul_le_mul hby (show n ≤ 8 by omega)) (by decide))
      clear hi hz0 hz1 hz2 hby hinfo
      go_wp2_with (at_make; refine wpList_make_full _ rfl _ _ 43 rfl w2.heap.size 28 i0 _ 38 Try.underlying43 HIF.out HZ0.out HZ1.out .i64 .i64 _ _ n rfl rfl rfl rfl HZ2.out (by unfold maxLen; omega) (Nat.le_refl _) ?_)
      intro w3 ho3 hg3
      have hb3 : Below w2.heap.size w2 w3 := (Below.refl w2.heap.size w2).grown hg3 (Nat.le_refl _) (by intro g hg; cases hg)
      have HO3 := Lib.hid (show OwnO w2.heap.size 28 (.slice (some ⟨w2.heap.size, 0, none⟩) n n) (partO [] n) w3 from OwnO.made ho3)
      have HB3 := Lib.hid hb3
      have HGL := Lib.hid (show w2.heap.size < w3.heap.size from (HO3.out.lt rfl).2)
      obtain ⟨g, hg⟩ : ∃ g, g = w2.heap.size := ⟨_, rfl⟩
      rw [← hg] at HO3 ⊢
      have HGE := Shut.mk hg
      clear ho3 hg3 hb3 hg
      go_wp2_with fail
      go_loopw [28] (fun i wr => ∃ (k : Nat) (L : List OpN), k ≤ n ∧ i = .int .i64 k ∧ L.length = k ∧ (l.take k).map readO = L.map some ∧ OwnO g 28 (.slice (some ⟨g, 0, none⟩) n n) (partO L n) wr ∧ Below w2.heap.size w2 wr) (fun i _ => n - (intOf i).toNat)
      case atStart => exact ⟨0, [], Nat.zero_le _, rfl, rfl, by rfl, HO3.out, HB3.out⟩
      case round =>
        clear HO3 HB3
        obtain ⟨k, L, hk, rfl, hLk, hmap, hown, hb⟩ := hrel
        have HLK := Shut.mk hLk
        have HMP := Shut.mk hmap
        have HO := Lib.hid hown
        have HBW := Lib.hid hb
        have HSW := Lib.hid (HSA.out.below hb)
        have HGW := Lib.hid (show g < wr.heap.size from (hown.lt rfl).2)
        clear hLk hmap hown hb
        by_cases hkn : k < n
        · obtain ⟨t, ht⟩ : ∃ t, l[k]'(by rw [HN.out]; exact hkn) = t := ⟨_, rfl⟩
          obtain ⟨gs, og, rfl, c0⟩ := HSW.out.cell (q := k) (by rw [HN.out]; exact hkn)
          rw [ht] at c0
          have HT := Shut.mk ht
          have HTL := Lib.hid (show t.length ≤ 262144 from HLR.out t (by rw [← ht]; exact List.getElem_mem _))
          clear ht
          have HRD := Lib.hid (dev_readOp t wr (by have := HTL.out; omega))
          obtain ⟨o, hor⟩ : ∃ o, readO t = o := ⟨_, rfl⟩
          have HOR := Shut.mk hor
          rw [hor] at HRD
          clear hor
          have hsz : ∀ pa pc, (Try.prog.info? 28).map (·.size) = some (opV (o.getD zeroO) pa pc).size ∧ (opV zeroO none 0).size = (opV (o.getD zeroO) pa pc).size ∧ (o.getD zeroO).d.ref.length = 32 ∧ (o.getD zeroO).Ok := fun pa pc => by
            have hok : (o.getD zeroO).Ok := by
              cases o with
              | none => exact ⟨zeroI_ok, fun p hp => by cases hp⟩
              | some o => exact (readO_some HOR.out).2.2
            exact ⟨by rw [opV_size hok.ref.1]; exact Try.sizeO, by rw [opV_size hok.ref.1]; rfl, hok.ref.1, hok⟩
          have HSZ := Lib.hid hsz
          clear hsz
          go_wp2_with fail
          refine HRD.out.mono ?_
          rintro e w4 ⟨⟨pa, pc, rfl, hia, hnew⟩, hb⟩
          have HIA := Lib.hid hia
          have HNEW := Lib.hid hnew
          have HB4 := Lib.hid hb
          clear hia hnew hb c0 HRD
          unfold DrO
          obtain ⟨y, hy⟩ : ∃ y, o.getD zeroO = y := ⟨_, rfl⟩
          have HY := Shut.mk hy
          rw [hy] at HIA HSZ ⊢
          clear hy
          cases o with
          | none =>
            simp only [Option.isSome_none]
            have HR := Shut.mk (show readL s = none by
              rw [HR0.out]
              refine readAll_bad (k := k) (by rw [HN.out]; exact hkn) ?_
              rw [HT.out, HOR.out])
            go_wp2_with (first
              | (refine wpList_alloc_of rfl 28 rfl (opL zeroO none 0) HZO.out ?_)
              | (refine wpList_store_cells rfl 28 _ _ rfl rfl w4.heap.size (opV zeroO none 0) (opV y pa pc) 28 rfl rfl (heap_alloc_new w4 _) (HSZ.out pa pc).1 (HSZ.out pa pc).2.1 (opV_all y pa pc) ?_))
            intro w5 hc hb
            have hb5 : Below w4.heap.size w4 w5 := But.toBelow ((Below.refl _ w4).alloc (Nat.le_refl _) _) hb.out (Nat.le_refl _) (by rw [World.size_alloc]; exact Nat.le_succ _)
            have HB5 := Lib.hid (HB4.out.trans (hb5.mono HB4.out.size))
            clear hc hb hb5 HIA HB4
            go_wp2_with fail
            go_ret2
            exact ⟨⟨_, by rw [HR.out]; rfl, by rw [HR.out]; exact OwnO.nil _ _ _⟩, HB2.out.trans ((HBW.out.trans (HB5.out.mono HBW.out.size)).mono HB2.out.size)⟩
          | some oo =>
            simp only [Option.isSome_some]
            obtain rfl : oo = y := HY.out
            go_wp2_with (first
              | (refine wpList_alloc_of rfl 28 rfl (opL zeroO none 0) HZO.out ?_)
              | (refine wpList_store_cells rfl 28 _ _ rfl rfl w4.heap.size (opV zeroO none 0) (opV oo pa pc) 28 rfl rfl (heap_alloc_new w4 _) (HSZ.out pa pc).1 (HSZ.out pa pc).2.1 (opV_all oo pa pc) ?_))
            intro w5 hc hb
            have hb5 : Below w4.heap.size w4 w5 := But.toBelow ((Below.refl _ w4).alloc (Nat.le_refl _) _) hb.out (Nat.le_refl _) (by rw [World.size_alloc]; exact Nat.le_succ _)
            have HC5 := Lib.hid hc.out
            have HIA5 := Lib.hid (HIA.out.below hb5)
            have HB5 := Lib.hid (HB4.out.trans (hb5.mono HB4.out.size))
            have HO5 := Lib.hid (HO.out.below HB5.out)
            have HPL := Lib.hid (show n = (partO L n).length from (partO_len (by rw [HLK.out]; omega)).symm)
            have HTH := Lib.hid (HO5.out.there HPL.out hkn)
            have HNE := Lib.hid (show ∀ a, pa = some a → oo.preds ≠ [] → g ≠ a.block from fun a ha _ e => by
              have h1 := HNEW.out a ha
              have h2 := HGW.out
              omega)
            have HPS := Shut.mk (show (partO L n).set k oo = partO (L ++ [oo]) n by rw [← HLK.out]; exact partO_set (by rw [HLK.out]; exact hkn) oo)
            have HSV := Lib.hid (show (Try.prog.info? 28).map (·.size) = some (opV oo pa pc).size from (HSZ.out pa pc).1)
            have HV38 := Lib.hid (show (opV oo pa pc).size = 38 from opV_size (HSZ.out pa pc).2.2.1)
            clear hc hb hb5 HIA HB4 HO
            go_wp2_with (first
              | (refine wpList_load_cells rfl 28 _ rfl w4.heap.size (opV oo pa pc) 28 _ rfl HC5.out Try.underlying28 rfl HSV.out ?_)
              | (refine wpList_store_mid rfl 28 _ _ rfl g (k * 38) _ rfl rfl (by rw [HV38.out, Nat.mul_comm]; exact HTH.out) HSV.out (opV_all oo pa pc) ?_))
            have hset := HO5.out.set HPL.out hkn oo pa pc (HSZ.out pa pc).2.2.1 HIA5.out HNE.out
            rw [HPS.out, show opL oo pa pc = (opV oo pa pc).toList from rfl, Nat.mul_comm 38 k] at hset
            have hbw := But.cells (opV oo pa pc).toList (k * 38) w5 (But.refl g w5)
            refine ⟨⟨k + 1, L ++ [oo], by omega, by go_num, by rw [List.length_append, HLK.out]; rfl, ?_, hset, But.toBelow (HBW.out.trans (HB5.out.mono HBW.out.size)) hbw (by rw [HGE.out]; exact Nat.le_refl _) (Nat.le_trans HBW.out.size HB5.out.size)⟩, by simp [intOf]; omega⟩
            rw [List.take_succ_eq_append_getElem (by rw [HN.out]; exact hkn), List.map_append, List.map_append, HMP.out, HT.out]
            simp only [List.map_cons, List.map_nil]
            rw [HOR.out]
        · obtain rfl : k = n := by omega
          have HR := Shut.mk (show readL s = some L by
            rw [HR0.out]
            refine (readAll_iff l L).2 ?_
            rw [← HMP.out, List.take_of_length_le (by rw [HN.out]; exact Nat.le_refl _)])
          have HPF := Shut.mk (show partO L k = L by rw [partO, HLK.out, Nat.sub_self]; simp)
          rw [HPF.out] at HO
          have HGB := Lib.hid (show w.heap.size ≤ g by rw [HGE.out]; exact HB2.out.size)
          go_wp2_with fail
          go_ret2
          exact ⟨⟨_, by rw [HR.out]; rfl, by rw [HR.out]; exact HO.out.mono HGB.out⟩, HB2.out.trans (HBW.out.mono HB2.out.size)⟩
end Go.Proofs.Ythgfpojfnhkckaa
