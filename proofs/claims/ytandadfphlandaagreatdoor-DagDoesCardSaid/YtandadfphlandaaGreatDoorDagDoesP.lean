/-
  The law DagDoes: for every input it answers true, and its arguments read as they did. Condition: the round constants' table lies as the program's text lays it (the card ties it).
-/
import Derived.Test.YtandadfphlandaaGreatDoorJ05
import Derived.Test.YtandadfphlandaaGreatDoorJ22
import Derived.Test.YtandadfphlandaaGreatDoorJ26
import Derived.Test.YtandadfphlandaaGreatDoorJ27
namespace Go.Proofs.YtandadfphlandaaGreatDoor
open Go.RowKit Go.BigFrame
theorem get_cases {s : DagN} {n : List Nat} {o : OpN} {pa : Option Addr} {pc : Nat} {e : Ending}
    (h : (o ∈ s.ops ∧ nameN o = n ∧ e = .returned (.tuple #[.agg (opV o pa pc), .int .i64 0])) ∨ (n ∉ s.names ∧ o = zeroO ∧ e = .returned (.tuple #[.agg (opV o pa pc), .int .i64 5]))) :
    ∃ (g : Int) (q : Int), e = .returned (.tuple #[.agg (opV o pa pc), .int .i64 g]) ∧ atN s.names n = q ∧ (g = 0 ∧ 0 ≤ q ∨ g = 5 ∧ q < 0) := by
  rcases h with ⟨h1, rfl, rfl⟩ | ⟨h1, rfl, rfl⟩
  · refine ⟨0, _, rfl, rfl, .inl ⟨rfl, ?_⟩⟩
    rw [atN, if_pos (show nameN o ∈ s.names from List.mem_map.2 ⟨o, h1, rfl⟩)]
    omega
  · refine ⟨5, _, rfl, rfl, .inr ⟨rfl, ?_⟩⟩
    rw [atN, if_neg h1]
    decide
theorem neq_errno_eq (c : Int) (w : World) : (binOp .eql 40 (.int .i64 c) (.int .i64 c)).run Tryz.prog w = .ok (.bool true) w := by go_simp
theorem geq_yes {q : Int} (h : 0 ≤ q) (w : World) : (binOp .geq 3 (.int .i64 q) (.int .i64 0)).run Tryz.prog w = .ok (.bool true) w := by
  go_simp
theorem geq_no {q : Int} (h : q < 0) (w : World) : (binOp .geq 3 (.int .i64 q) (.int .i64 0)).run Tryz.prog w = .ok (.bool false) w := by
  go_simp
namespace dagDoes
set_option maxHeartbeats 20000000 in
set_option maxRecDepth 100000 in
theorem walk (W : World) (hk : KAt W) (ao : Option Addr) (l : List MakeN) (c : Nat) (hs : MksAt ao l W) (hn : ∀ x ∈ l, x.In) (ht : l.length ≤ 140737488351232)
    (bo : Option Addr) (r : List Int) (rc : Nat) (hr : IntsIn bo r W) (_hz : ∀ z ∈ r, I64 z) (hl : r.length ≤ 140737488351232) (n : List Nat) (hi : IdOk n) (A : Int) (_hA : (Lit.int .i64 A).wf = true) (d : DraftN) (hd : d.In) :
    Calls Tryz.prog 3 #[.slice ao l.length c, .slice bo r.length rc, .agg (nums .u8 n).toArray, .int .i64 A, .agg (draftV d)] W fun e W' => e = .returned (.bool true) ∧ Below W.heap.size W W' := by
  have HS := Lib.hid hs
  have HN := Lib.hid hn
  have HT := Lib.hid ht
  have HR := Lib.hid hr
  have HI := Lib.hid hi
  have HD := Lib.hid hd
  have HSO := Lib.hid (show (Tryz.prog.info? 38).bind (·.zero) = some (.agg (opL zeroO none 0).toArray) by kernel_rfl)
  obtain ⟨nr, hnr⟩ : ∃ i, r.length = i := ⟨_, rfl⟩
  rw [hnr] at hl ⊢
  have HNR := Shut.mk hnr
  obtain ⟨nl, hnl⟩ : ∃ i, l.length = i := ⟨_, rfl⟩
  have HMD := Lib.hid (fun w1 (b : Below W.heap.size W w1) => ref_made W ao l c w1 HS.out HN.out HT.out b)
  rw [hnl] at HMD ⊢
  have x1 : Blk W.heap.size 24 .u8 n (W.alloc (.cells (nums .u8 n).toArray 24)) := heap_alloc_new W _
  have a1 : Below W.heap.size W (W.alloc (.cells (nums .u8 n).toArray 24)) := (Below.refl _ _).alloc (Nat.le_refl _) _
  have s1 : (W.alloc (.cells (nums .u8 n).toArray 24)).heap.size = W.heap.size + 1 := World.size_alloc _ _
  have a2 : Below (W.alloc (.cells (nums .u8 n).toArray 24)).heap.size (W.alloc (.cells (nums .u8 n).toArray 24)) ((W.alloc (.cells (nums .u8 n).toArray 24)).alloc (.cells (draftV d) 27)) := (Below.refl _ _).alloc (Nat.le_refl _) _
  have x2 : Cells (W.alloc (.cells (nums .u8 n).toArray 24)).heap.size 27 (draftV d) ((W.alloc (.cells (nums .u8 n).toArray 24)).alloc (.cells (draftV d) 27)) := heap_alloc_new _ _
  rw [s1] at x2
  have y1 := x1.below a2
  have hb0 := a1.trans (a2.mono a1.size)
  have HK := Lib.hid (hk.below hb0)
  clear hk hs hn ht hr hnr hnl hi hd x1 a1 s1 a2
  go_enter Tryz.func3, Tryz.ntmps3
  go_upto_region 1 with (fail)
  obtain ⟨w0, hw0⟩ : ∃ x, x = (W.alloc (.cells (nums .u8 n).toArray 24)).alloc (.cells (draftV d) 27) := ⟨_, rfl⟩
  rw [← hw0] at x2 y1 hb0 HK ⊢
  have HX7 := Lib.hid y1
  have HX9 := Lib.hid x2
  have HB0 := Lib.hid hb0
  obtain ⟨g7, hg7⟩ : ∃ g, W.heap.size = g := ⟨_, rfl⟩
  obtain ⟨g9, hg9⟩ : ∃ g, W.heap.size + 1 = g := ⟨_, rfl⟩
  rw [hg7] at HX7
  rw [hg9] at HX9
  rw [show (W.heap.size + 1 : Nat) = g9 from hg9] at *
  rw [hg7]
  clear hw0 x2 y1 hb0 hg7 hg9
  go_wp2_with fail
  refine (alive10 w0 HK.out).mono ?_
  rintro e w1 ⟨rfl, hb1⟩
  have HB1 := Lib.hid (HB0.out.trans (hb1.mono HB0.out.size))
  have HK1 := Lib.hid (HK.out.below hb1)
  have HX71 := Lib.hid (HX7.out.below hb1)
  have HX91 := Lib.hid (HX9.out.below hb1)
  clear hb1 HX7 HX9 HK HB0
  go_wp2_with fail
  refine (HMD.out w1 HB1.out).mono ?_
  rintro e w2 ⟨v2, L, rfl, ho2, hf2, hl2, hb2⟩
  obtain ⟨oa, oc, rfl⟩ := ho2.form
  have HO2 := Lib.hid ho2
  have HF2 := Lib.hid hf2
  have HB2 := Lib.hid (HB1.out.trans (hb2.mono HB1.out.size))
  have HK2 := Lib.hid (HK1.out.below hb2)
  have HX72 := Lib.hid (HX71.out.below hb2)
  have HX92 := Lib.hid (HX91.out.below hb2)
  obtain ⟨N, hN⟩ : ∃ i, L.length = i := ⟨_, rfl⟩
  rw [hN] at hl2 ⊢
  have HNL := Shut.mk hN
  obtain ⟨_, dk, dv, _⟩ := draft_cells HX92.out
  clear ho2 hf2 hb2 hN HMD HX71 HX91 HB1 HK1
  by_cases h60 : nr ≤ 60
  · have q1 : decide ((60 : Int) < (nr : Int)) = false := decide_eq_false (by omega)
    by_cases h0 : N = 0
    · have q2 : ((N : Int) == 0) = true := by simp [h0]
      go_wp2_with fail
      go_ret
      exact ⟨rfl, HB2.out⟩
    · have q2 : ((N : Int) == 0) = false := by simpa using h0
      by_cases hk100 : d.key.length ≤ 100
      · have q3 : decide ((100 : Int) < (d.key.length : Int)) = false := decide_eq_false (by omega)
        by_cases hv100 : d.val.length ≤ 100
        · have q4 : decide ((100 : Int) < (d.val.length : Int)) = false := decide_eq_false (by omega)
          have HKL := Lib.hid (show d.key.length ≤ 140737488351232 by omega)
          have HVL := Lib.hid (show d.val.length ≤ 140737488351232 by omega)
          have HFIT := Lib.hid (show d.Fit from ⟨HD.out.ref, HD.out.low, HD.out.high, by omega, by omega⟩)
          go_wp2_with fail
          refine (dev_new (fun b => w2.heap.size ≤ b) w2 (fun b h => h)).mono ?_
          rintro e w3 ⟨B, rfl, hs3, hb3⟩
          have b4 : Below w3.heap.size w3 (w3.alloc (.cells #[.slice none 0 0, .slice none 0 0, .slice none 0 0, .slice none 0 0] 36)) := (Below.refl _ _).alloc (Nat.le_refl _) _
          have HTW := Lib.hid (show TwoAt (fun b => w2.heap.size ≤ b) B w3.heap.size w2 0 (fun b => w2.heap.size ≤ b) ⟨[], [], []⟩ DagN.new DagN.new [] [] (.slice none 0 0) (.slice none 0 0) (.slice none 0 0) (.slice none 0 0) (w3.alloc (.cells #[.slice none 0 0, .slice none 0 0, .slice none 0 0, .slice none 0 0] 36)) from
            ⟨hs3.below b4, DInv.new, tame_new, tame_new, refAt_new _ w3 hb3.size, Nat.le_refl _, Nat.le_refl _, fun _ h => h, fun b h => Nat.le_trans (Nat.le_trans hb3.size b4.size) h, fun b h e => (by
              have h1 := (SetO.x hs3 h).2
              rcases e with rfl | e | e | e | e
              · omega
              all_goals cases e), (fun b e => by
              rcases e with rfl | e | e | e | e
              · exact hb3.size
              all_goals cases e), (Only.of hb3).below b4⟩)
          obtain ⟨gs, hgs⟩ : ∃ g, w3.heap.size = g := ⟨_, rfl⟩
          have HGS := Shut.mk hgs
          rw [hgs] at HTW
          clear hs3 hb3 b4 q1 q2 q3 q4 dk dv hk100 hv100
          go_wp2_with fail
          try rw [hgs]
          clear hgs
          go_loopw [63] (fun i wr => ∃ (k : Nat) (X : Nat → Prop) (T : Ents) (s : DagN) (hs : List (List Nat)) (M : Bh) (vo vw vn vq : Value), k ≤ nr ∧ i = .int .i64 k ∧ TwoAt (fun b => w2.heap.size ≤ b) B gs w2 k X T s s hs M vo vw vn vq wr) (fun i _ => nr - (intOf i).toNat)
          case atStart => exact ⟨0, _, _, _, _, _, _, _, _, _, Nat.zero_le _, rfl, HTW.out⟩
          case round =>
            clear HTW
            obtain ⟨k, X, T, s, hs, M, vo, vw, vn, vq, hkn, rfl, htw⟩ := hrel
            have HTW := Lib.hid htw
            have HBR := Lib.hid (show Below w2.heap.size w2 wr from Only.toBelow (Below.refl _ _) htw.only (fun _ h => h) (Nat.le_refl _))
            have HBW := Lib.hid (HB2.out.trans (HBR.out.mono HB2.out.size))
            clear htw
            by_cases hlt : k < nr
            · obtain ⟨bb, ob, rfl, hbb, hcell⟩ := ints_at HR.out (by rw [HNR.out]; omega)
              have c1 : wr.cell? ⟨bb, ob + k, none⟩ = some (.int .i64 (r.getD k 0)) := (HBW.out.cell (p := ⟨bb, ob + k, none⟩) hbb).trans (hcell k (by rw [HNR.out]; exact hlt))
              obtain ⟨z, hz⟩ : ∃ z, r.getD k 0 = z := ⟨_, rfl⟩
              rw [hz] at c1
              obtain ⟨q, hqN, hqe⟩ := idx_of z (n := N) (by omega) (by omega)
              obtain ⟨y, hy⟩ : ∃ y, L[q]? = some y := ⟨_, List.getElem?_eq_getElem (by rw [HNL.out]; exact hqN)⟩
              have HY := Lib.hid (HF2.out y (List.mem_of_getElem? hy))
              obtain ⟨bL, oL, rfl, hbL, pa, pc, hrow, hia, _⟩ := HO2.out.at.get hy
              have HRW := Lib.hid (rangeAt_belowI hrow HBR.out hbL)
              have HIA := Lib.hid (hia.below HBR.out)
              have HOF := Lib.hid (show OffX (fun b => w2.heap.size ≤ b) pa y.preds from fun a ha h0 e => by have := hia.lt h0 ha; omega)
              have HSL := Lib.hid (show (Tryz.prog.info? 38).map (·.size) = some (opL y pa pc).length by rw [opL_len HY.out.d.ref.1]; exact Tryz.sizeO)
              have hqi : (q : Int) < (N : Int) := by omega
              clear hz hy hbL hrow hia hcell hbb
              have HSV17 := Lib.hid (show (Tryz.prog.info? 38).map (·.size) = some (opV y pa pc).size by rw [opV_size HY.out.d.ref.1]; exact Tryz.sizeO)
              have HSZ17 := Lib.hid (show (opL zeroO none 0).toArray.size = (opV y pa pc).size by rw [opV_size HY.out.d.ref.1]; rfl)
              go_wp2_with (first
                | (refine wpList_load_mid rfl 38 _ rfl bL (oL + q * 38) rfl (opL y pa pc) _ HRW.out Tryz.underlying38 rfl HSL.out ?_)
                | (refine wpList_alloc_of rfl 38 rfl (opL zeroO none 0) HSO.out ?_)
                | (refine wpList_store_cells rfl 38 _ _ rfl rfl wr.heap.size (opL zeroO none 0).toArray (opV y pa pc) 38 rfl rfl (heap_alloc_new wr _) HSV17.out HSZ17.out (opV_all y pa pc) ?_))
              intro w5 hcs hbs
              have hbb : Below wr.heap.size wr w5 := But.toBelow ((Below.refl _ wr).alloc (Nat.le_refl _) _) hbs.out (Nat.le_refl _) (by rw [World.size_alloc]; exact Nat.le_succ _)
              have HC17 := Lib.hid hcs.out
              have HTW5 := Lib.hid (HTW.out.below hbb)
              have HIA5 := Lib.hid (HIA.out.below hbb)
              have HBR5 := Lib.hid (HBR.out.trans (hbb.mono HBR.out.size))
              have HS5 := Lib.hid (hbb.size)
              obtain ⟨g17, hgg⟩ : ∃ g, wr.heap.size = g := ⟨_, rfl⟩
              have HG17 := Lib.hid (show wr.heap.size ≤ g17 from hgg ▸ Nat.le_refl _)
              rw [hgg] at HC17 ⊢
              clear hcs hbs hbb hgg HSZ17
              have HTK := Lib.hid (dev_take X B T s hs M y pa pc w5 HTW5.out.set HTW5.out.hi HTW5.out.inv HTW5.out.tameS HY.out HIA5.out (HK2.out.below HBR5.out) (by have := HTW5.out.cntS; omega))
              go_wp2_with (refine wpList_load_cells rfl 38 (.tmp 17) rfl g17 (opV y pa pc) 38 _ rfl HC17.out Tryz.underlying38 rfl HSV17.out ?_)
              refine HTK.out.mono ?_
              intro e w6 hdt
              obtain ⟨v6, X6, T6, hs6, M6, rfl, ho6, htw6, htu6, _⟩ := HTW5.out.dev hdt
              obtain ⟨a6, c6, rfl⟩ := ho6.form
              have HTW6 := Lib.hid htw6
              have HO6 := Lib.hid ho6
              have h17lt := HC17.out.lt
              have HC176 := Lib.hid (HC17.out.only htu6.only (fun e => by have h1 := (SetO.x HTW.out.set e).2; have h2 := HG17.out; omega))
              have HIA6 := Lib.hid (HIA5.out.only htu6.only (HOF.out.mono (fun b hb => HTW5.out.xz b (SetO.x HTW5.out.set hb).1)))
              obtain ⟨NM, hNM⟩ : ∃ z, (takeN s y).1 = z := ⟨_, rfl⟩
              obtain ⟨cc, hcc⟩ : ∃ z, (takeN s y).2.1 = z := ⟨_, rfl⟩
              have hce : (cc != cc) = false := by simp
              have htn := take_names s y
              have hmn := HTW.out.tameS.many
              rw [hNM] at HO6 htn
              have HTN := Lib.hid htn.1
              have HTL := Lib.hid (show NM.length ≤ 1000000 by have := htn.2; omega)
              rw [hNM, hcc]
              clear hdt htw6 ho6 htu6 HTK HC17 htn hmn h17lt
              have HTK2 := Lib.hid (take_in (fun b => w2.heap.size ≤ b) gs vo vw vn vq s y pa pc w6 HTW6.out.ref (fun b hb => HTW6.out.xz b (HTW6.out.hi b hb)) HTW6.out.tameT HY.out HIA6.out HOF.out (by have := HTW6.out.cntT; have := HTW.out.cntT; omega))
              go_wp2_with (refine wpList_load_cells rfl 38 (.tmp 17) rfl g17 (opV y pa pc) 38 _ rfl HC176.out Tryz.underlying38 rfl HSV17.out ?_)
              refine HTK2.out.mono ?_
              intro e w7 hdt
              obtain ⟨v7, vo7, vw7, vn7, vq7, rfl, ho7, htw7, htu7⟩ := HTW6.out.doc HTW.out.cntT hdt
              obtain ⟨a7, c7, rfl⟩ := ho7.form
              rw [hNM] at ho7
              have HTW7 := Lib.hid htw7
              have HA7 := Lib.hid (ho7.at HTN.out)
              have HC177 := Lib.hid (HC176.out.only htu7.only (fun e => by have h1 := HTW.out.ref.lt e; have h2 := HG17.out; omega))
              have HA6 := Lib.hid ((HO6.out.only htu7.only (fun g hg e => by have h1 := (World.ownsRow.lt HO6.out g hg).1; have h2 := HTW.out.ref.lt e; have h3 := HS5.out; omega)).at HTN.out)
              rw [hNM, hcc]
              clear hdt htw7 ho7 htu7 HTK2 HO6 HC176 HIA6
              have HTN7 := Lib.hid (fun w' (b : Below w7.heap.size w7 w') => HTW7.out.below b)
              go_wp2_with (refine wpList_load_cells rfl 38 (.tmp 17) rfl g17 (opV y pa pc) 38 _ rfl HC177.out Tryz.underlying38 rfl HSV17.out ?_)
              refine (dev_take_nil y pa pc w7).mono ?_
              rintro e w8 ⟨rfl, hb8⟩
              have HB8 := Lib.hid hb8
              have HID := Lib.hid (show Calls Tryz.prog 12 #[.slice a6 NM.length c6, .slice a7 NM.length c7] w8 fun e w' => e = .returned (.bool true) ∧ Below w8.heap.size w8 w' from by
                have h := ref_ids a6 a7 c6 c7 NM.length NM.length NM NM w8 (HA6.out.below hb8) (HA7.out.below hb8) HTN.out HTN.out rfl rfl HTL.out HTL.out
                rwa [decide_eq_true rfl] at h)
              clear hb8 HA6 HA7 hNM hcc
              go_wp2_with fail
              refine HID.out.mono ?_
              rintro e w9 ⟨rfl, hb9⟩
              have HB9 := Lib.hid (HB8.out.trans (hb9.mono HB8.out.size))
              have HSM := Lib.hid (same_true X6 _ B T6 _ _ M6 gs vo7 vw7 vn7 vq7 w9 (HTN7.out w9 HB9.out).set (HTN7.out w9 HB9.out).inv (HTN7.out w9 HB9.out).tameS (HTN7.out w9 HB9.out).ref)
              clear hb9
              go_wp2_with fail
              refine HSM.out.mono ?_
              rintro e w10 ⟨rfl, hb10⟩
              have HFI := Lib.hid ((HTN7.out w10 (HB9.out.trans (hb10.mono HB9.out.size))))
              clear hb10
              go_wp2_with fail
              exact ⟨⟨k + 1, X6, T6, _, hs6, M6, vo7, vw7, vn7, vq7, by omega, by go_num, HFI.out⟩, by simp [intOf]; omega⟩
            · obtain rfl : k = nr := by omega
              have HX73 := Lib.hid (HX72.out.below HBR.out)
              have HX93 := Lib.hid (HX92.out.below HBR.out)
              have HSN := Lib.hid (show (Tryz.prog.info? 24).map (·.size) = some n.length by rw [HI.out.1]; kernel_rfl)
              have HSD := Lib.hid (show (Tryz.prog.info? 27).map (·.size) = some (draftV d).size by rw [draftV_size HD.out.ref.1]; exact Tryz.sizeD)
              have HNX := Lib.hid (fun w' (b : Below wr.heap.size wr w') => dev_next X B T s hs M A d w' (HTW.out.below b).set HTW.out.inv HD.out.ref HKL.out HVL.out HTW.out.tameS)
              have HRX := Lib.hid (fun w' (b : Below wr.heap.size wr w') => ref_next (fun b => w2.heap.size ≤ b) gs vo vw vn vq s A d w' (HTW.out.below b).ref HD.out.ref HKL.out HVL.out (fun x hx => ⟨(HTW.out.tameS.ops x hx).d.ref.1, (HTW.out.tameS.ops x hx).preds, by have := (HTW.out.tameS.ops x hx).many; omega⟩) (by have := HTW.out.tameS.many; omega) HTW.out.tameS.shallow)
              obtain ⟨xo, ce, hnx, HXO⟩ : ∃ (xo : OpN) (ce : Int), ((nextN' s A d).1.getD zeroO = xo ∧ (nextN' s A d).2 = ce) ∧ Hid (xo.Ok ∧ xo.preds.length ≤ 140737488351232) := by
                refine ⟨_, _, ⟨rfl, rfl⟩, Lib.hid ?_⟩
                rcases next_cases s A d with ⟨c0, h, _⟩ | h
                · rw [h]
                  exact ⟨⟨zeroI_ok, fun p hp => by cases hp⟩, Nat.zero_le _⟩
                · rw [h]
                  refine ⟨⟨HD.out.ref, fun p hp => names_ok p (headsN_mem hp)⟩, ?_⟩
                  have h1 := headsN_len s
                  have h2 := HTW.out.tameS.many
                  show (headsN s).length ≤ _
                  omega
              have hcq := neq_errno_eq ce
              have HCQ := Lib.hid hcq
              clear hcq
              go_wp2_with (refine wpList_load_cells rfl 27 (.tmp 9) rfl g9 (draftV d) 27 _ rfl HX93.out Tryz.underlying27 rfl HSD.out ?_)
              refine (HNX.out wr (Below.refl _ _)).mono ?_
              rintro e w20 ⟨⟨p1, k1, rfl, hi1, _⟩, hb20⟩
              rw [hnx.1] at hi1
              rw [hnx.1, hnx.2]
              have HB20 := Lib.hid hb20
              have HI20 := Lib.hid hi1
              clear hb20 hi1
              have HSV24 := Lib.hid (show (Tryz.prog.info? 38).map (·.size) = some (opV xo p1 k1).size by rw [opV_size HXO.out.1.1.1]; exact Tryz.sizeO)
              have HSZ24 := Lib.hid (show (opL zeroO none 0).toArray.size = (opV xo p1 k1).size by rw [opV_size HXO.out.1.1.1]; rfl)
              go_wp2_with (first
                | (refine wpList_alloc_of rfl 38 rfl (opL zeroO none 0) HSO.out ?_)
                | (refine wpList_store_cells rfl 38 _ _ rfl rfl w20.heap.size (opL zeroO none 0).toArray (opV xo p1 k1) 38 rfl rfl (heap_alloc_new w20 _) HSV24.out HSZ24.out (opV_all xo p1 k1) ?_))
              intro w21 hcs hbs
              have hbb : Below w20.heap.size w20 w21 := But.toBelow ((Below.refl _ w20).alloc (Nat.le_refl _) _) hbs.out (Nat.le_refl _) (by rw [World.size_alloc]; exact Nat.le_succ _)
              have HC24 := Lib.hid hcs.out
              have HB21 := Lib.hid (HB20.out.trans (hbb.mono HB20.out.size))
              have HI21 := Lib.hid (HI20.out.below hbb)
              obtain ⟨g24, hgg⟩ : ∃ g, w20.heap.size = g := ⟨_, rfl⟩
              rw [hgg] at HC24 ⊢
              clear hcs hbs hbb hgg HSZ24
              have HX921 := Lib.hid (HX93.out.below HB21.out)
              go_wp2_with (refine wpList_load_cells rfl 27 (.tmp 9) rfl g9 (draftV d) 27 _ rfl HX921.out Tryz.underlying27 rfl HSD.out ?_)
              refine (HRX.out w21 HB21.out).mono ?_
              rintro e w22 ⟨⟨p2, k2, rfl, hi2, _⟩, hb22⟩
              rw [hnx.1] at hi2
              rw [hnx.1, hnx.2]
              have HB22 := Lib.hid (HB21.out.trans (hb22.mono HB21.out.size))
              have HC242 := Lib.hid (HC24.out.below hb22)
              have HI22 := Lib.hid hi2
              have HI212 := Lib.hid (HI21.out.below hb22)
              clear hb22 hi2 HC24 HI21
              have HSV26 := Lib.hid (show (Tryz.prog.info? 38).map (·.size) = some (opV xo p2 k2).size by rw [opV_size HXO.out.1.1.1]; exact Tryz.sizeO)
              have HSZ26 := Lib.hid (show (opL zeroO none 0).toArray.size = (opV xo p2 k2).size by rw [opV_size HXO.out.1.1.1]; rfl)
              go_wp2_with (first
                | (refine wpList_alloc_of rfl 38 rfl (opL zeroO none 0) HSO.out ?_)
                | (refine wpList_store_cells rfl 38 _ _ rfl rfl w22.heap.size (opL zeroO none 0).toArray (opV xo p2 k2) 38 rfl rfl (heap_alloc_new w22 _) HSV26.out HSZ26.out (opV_all xo p2 k2) ?_))
              intro w23 hcs hbs
              have hbb : Below w22.heap.size w22 w23 := But.toBelow ((Below.refl _ w22).alloc (Nat.le_refl _) _) hbs.out (Nat.le_refl _) (by rw [World.size_alloc]; exact Nat.le_succ _)
              have HC26 := Lib.hid hcs.out
              have HB23 := Lib.hid (HB22.out.trans (hbb.mono HB22.out.size))
              have HC243 := Lib.hid (HC242.out.below hbb)
              have HI213 := Lib.hid (HI212.out.below hbb)
              have HI223 := Lib.hid (HI22.out.below hbb)
              obtain ⟨g26, hgg⟩ : ∃ g, w22.heap.size = g := ⟨_, rfl⟩
              rw [hgg] at HC26 ⊢
              clear hcs hbs hbb hgg HSZ26
              have HX723 := Lib.hid (HX73.out.below HB23.out)
              go_wp2_with (refine wpList_load_nums rfl 24 (.tmp 7) rfl g7 .u8 n 24 _ rfl HX723.out Tryz.underlying24 rfl HSN.out ?_)
              refine (dev_get X B T s hs M n w23 (HTW.out.below HB23.out).set HI.out HTW.out.tameS.ops).mono ?_
              rintro e w24 ⟨⟨o, p3, k3, ho3, hor⟩, hb24⟩
              have hor3 : o.d.ref.length = 32 := by
                rcases hor with ⟨h, _, _⟩ | ⟨_, h, _⟩
                · exact (HTW.out.tameS.ops o h).d.ref.1
                · rw [h]; rfl
              have HOR := Lib.hid hor3
              obtain ⟨gg, qq, rfl, hqq, hgq⟩ := get_cases hor
              have HGQ := Lib.hid hgq
              have HQQ := Shut.mk hqq
              have HB24 := Lib.hid (HB23.out.trans (hb24.mono HB23.out.size))
              have HC244 := Lib.hid (HC243.out.below hb24)
              have HC264 := Lib.hid (HC26.out.below hb24)
              have HI214 := Lib.hid (HI213.out.below hb24)
              have HI224 := Lib.hid (HI223.out.below hb24)
              clear hb24 ho3 hor hor3 hqq hgq HC243 HC26 HI213 HI223
              have HSV28 := Lib.hid (show (Tryz.prog.info? 38).map (·.size) = some (opV o p3 k3).size by rw [opV_size HOR.out]; exact Tryz.sizeO)
              have HSZ28 := Lib.hid (show (opL zeroO none 0).toArray.size = (opV o p3 k3).size by rw [opV_size HOR.out]; rfl)
              go_wp2_with (first
                | (refine wpList_alloc_of rfl 38 rfl (opL zeroO none 0) HSO.out ?_)
                | (refine wpList_store_cells rfl 38 _ _ rfl rfl w24.heap.size (opL zeroO none 0).toArray (opV o p3 k3) 38 rfl rfl (heap_alloc_new w24 _) HSV28.out HSZ28.out (opV_all o p3 k3) ?_))
              intro w25 hcs hbs
              have hbb : Below w24.heap.size w24 w25 := But.toBelow ((Below.refl _ w24).alloc (Nat.le_refl _) _) hbs.out (Nat.le_refl _) (by rw [World.size_alloc]; exact Nat.le_succ _)
              have HC28 := Lib.hid hcs.out
              have HB25 := Lib.hid (HB24.out.trans (hbb.mono HB24.out.size))
              have HC245 := Lib.hid (HC244.out.below hbb)
              have HC265 := Lib.hid (HC264.out.below hbb)
              have HI215 := Lib.hid (HI214.out.below hbb)
              have HI225 := Lib.hid (HI224.out.below hbb)
              obtain ⟨g28, hgg⟩ : ∃ g, w24.heap.size = g := ⟨_, rfl⟩
              rw [hgg] at HC28 ⊢
              clear hcs hbs hbb hgg HSZ28
              have HX725 := Lib.hid (HX73.out.below HB25.out)
              go_wp2_with (refine wpList_load_nums rfl 24 (.tmp 7) rfl g7 .u8 n 24 _ rfl HX725.out Tryz.underlying24 rfl HSN.out ?_)
              refine (dev_get_nil n w25).mono ?_
              rintro e w26 ⟨rfl, hb26⟩
              have HB26 := Lib.hid (HB25.out.trans (hb26.mono HB25.out.size))
              have HC246 := Lib.hid (HC245.out.below hb26)
              have HC266 := Lib.hid (HC265.out.below hb26)
              have HI216 := Lib.hid (HI215.out.below hb26)
              have HI226 := Lib.hid (HI225.out.below hb26)
              clear hb26 HC245 HC265 HI215 HI225
              have HSV30 := Lib.hid (show (Tryz.prog.info? 38).map (·.size) = some (opV zeroO none 0).size by rw [opV_size rfl]; exact Tryz.sizeO)
              have HSZ30 := Lib.hid (show (opL zeroO none 0).toArray.size = (opV zeroO none 0).size by rw [opV_size rfl]; rfl)
              go_wp2_with (first
                | (refine wpList_alloc_of rfl 38 rfl (opL zeroO none 0) HSO.out ?_)
                | (refine wpList_store_cells rfl 38 _ _ rfl rfl w26.heap.size (opL zeroO none 0).toArray (opV zeroO none 0) 38 rfl rfl (heap_alloc_new w26 _) HSV30.out HSZ30.out (opV_all zeroO none 0) ?_))
              intro w27 hcs hbs
              have hbb : Below w26.heap.size w26 w27 := But.toBelow ((Below.refl _ w26).alloc (Nat.le_refl _) _) hbs.out (Nat.le_refl _) (by rw [World.size_alloc]; exact Nat.le_succ _)
              have HC30 := Lib.hid hcs.out
              have HB27 := Lib.hid (HB26.out.trans (hbb.mono HB26.out.size))
              have HC247 := Lib.hid (HC246.out.below hbb)
              have HC267 := Lib.hid (HC266.out.below hbb)
              have HI217 := Lib.hid (HI216.out.below hbb)
              have HI227 := Lib.hid (HI226.out.below hbb)
              obtain ⟨g30, hgg⟩ : ∃ g, w26.heap.size = g := ⟨_, rfl⟩
              rw [hgg] at HC30 ⊢
              clear hcs hbs hbb hgg HSZ30
              have HX927 := Lib.hid (HX93.out.below HB27.out)
              go_wp2_with (refine wpList_load_cells rfl 27 (.tmp 9) rfl g9 (draftV d) 27 _ rfl HX927.out Tryz.underlying27 rfl HSD.out ?_)
              refine (dev_next_nil 0 d w27).mono ?_
              rintro e w28 ⟨rfl, hb28⟩
              have HB28 := Lib.hid (HB27.out.trans (hb28.mono HB27.out.size))
              have HC248 := Lib.hid (HC247.out.below hb28)
              have HC268 := Lib.hid (HC267.out.below hb28)
              have HI218 := Lib.hid (HI217.out.below hb28)
              have HI228 := Lib.hid (HI227.out.below hb28)
              clear hb28 HC247 HC267 HI217 HI227
              have HSV32 := Lib.hid (show (Tryz.prog.info? 38).map (·.size) = some (opV zeroO none 0).size by rw [opV_size rfl]; exact Tryz.sizeO)
              have HSZ32 := Lib.hid (show (opL zeroO none 0).toArray.size = (opV zeroO none 0).size by rw [opV_size rfl]; rfl)
              go_wp2_with (first
                | (refine wpList_alloc_of rfl 38 rfl (opL zeroO none 0) HSO.out ?_)
                | (refine wpList_store_cells rfl 38 _ _ rfl rfl w28.heap.size (opL zeroO none 0).toArray (opV zeroO none 0) 38 rfl rfl (heap_alloc_new w28 _) HSV32.out HSZ32.out (opV_all zeroO none 0) ?_))
              intro w29 hcs hbs
              have hbb : Below w28.heap.size w28 w29 := But.toBelow ((Below.refl _ w28).alloc (Nat.le_refl _) _) hbs.out (Nat.le_refl _) (by rw [World.size_alloc]; exact Nat.le_succ _)
              have HC32 := Lib.hid hcs.out
              have HB29 := Lib.hid (HB28.out.trans (hbb.mono HB28.out.size))
              have HC249 := Lib.hid (HC248.out.below hbb)
              have HC269 := Lib.hid (HC268.out.below hbb)
              have HI219 := Lib.hid (HI218.out.below hbb)
              have HI229 := Lib.hid (HI228.out.below hbb)
              obtain ⟨g32, hgg⟩ : ∃ g, w28.heap.size = g := ⟨_, rfl⟩
              rw [hgg] at HC32 ⊢
              clear hcs hbs hbb hgg HSZ32
              have HCA := Lib.hid (fun w' (b : Below w29.heap.size w29 w') => HC249.out.below b)
              have HCB := Lib.hid (fun w' (b : Below w29.heap.size w29 w') => HC269.out.below b)
              have HXN := Lib.hid (fun w' (b : Below w29.heap.size w29 w') => HX73.out.below (HB29.out.trans (b.mono HB29.out.size)))
              have HSM := Lib.hid (fun w' (b : Below w29.heap.size w29 w') => show Calls Tryz.prog 17 #[.agg (opV xo p1 k1), .agg (opV xo p2 k2)] w' fun e w'' => e = .returned (.bool true) ∧ Below w'.heap.size w' w'' from by
                have h := ref_same9 xo xo p1 p2 k1 k2 w' HXO.out.1 HXO.out.1 (HI219.out.below b) (HI229.out.below b) HXO.out.2 HXO.out.2
                rwa [decide_eq_true rfl] at h)
              have HAT := Lib.hid (fun w' (b : Below w29.heap.size w29 w') => show Calls Tryz.prog 18 #[.pointer (some ⟨gs, 0, none⟩), .agg (nums .u8 n).toArray] w' fun e w'' => e = .returned (.int .i64 qq) ∧ Below w'.heap.size w' w'' from by
                have h := ref_at10 (fun b => w2.heap.size ≤ b) gs vo vw vn vq s n w' (HTW.out.below (HB29.out.trans (b.mono HB29.out.size))).ref HI.out.1 HI.out.2 (by have := HTW.out.tameS.many; omega)
                rwa [HQQ.out] at h)
              have HFB := Lib.hid (HBW.out.trans (HB29.out.mono HBW.out.size))
              rcases HGQ.out with ⟨rfl, hq⟩ | ⟨rfl, hq⟩
              · have HGE := Lib.hid (geq_yes hq)
                clear hq
                go_upto_region 23 with (fail)
                refine wp_region_class (fun w' => Below w29.heap.size w29 w') (by kernel_rfl) (by kernel_rfl) (Below.refl _ _).drew ?_
                repeat (first
                  | go_big_quiet_skip
                  | (go_big_quiet_want; refine quiet_load_cells 38 _ rfl g24 (opV xo p1 k1) 38 _ rfl HCA.out Tryz.underlying38 rfl HSV24.out ?_; go_big_quiet_on; simp only [Act.put, List.setIfInBounds_toArray, List.set_cons_zero, List.set_cons_succ])
                  | (go_big_quiet_want; refine quiet_load_cells 38 _ rfl g26 (opV xo p2 k2) 38 _ rfl HCB.out Tryz.underlying38 rfl HSV26.out ?_; go_big_quiet_on; simp only [Act.put, List.setIfInBounds_toArray, List.set_cons_zero, List.set_cons_succ])
                  | (go_big_quiet_want; refine quiet_load_nums 24 _ rfl g7 .u8 n 24 _ rfl HXN.out Tryz.underlying24 rfl HSN.out ?_; go_big_quiet_on; simp only [Act.put, List.setIfInBounds_toArray, List.set_cons_zero, List.set_cons_succ])
                  | (go_big_quiet_want; refine quiet_bin .eql 40 40 _ _ rfl (.int .i64 ce) (.int .i64 ce) _ rfl rfl (fun w => rfl) HCQ.out ?_; go_big_quiet_on; simp only [Act.put, List.setIfInBounds_toArray, List.set_cons_zero, List.set_cons_succ])
                  | (go_big_quiet_want; refine quiet_bin .geq 3 3 _ _ rfl (.int .i64 qq) (.int .i64 0) _ rfl rfl (fun w => rfl) HGE.out ?_; go_big_quiet_on; simp only [Act.put, List.setIfInBounds_toArray, List.set_cons_zero, List.set_cons_succ])
                  | go_big_quiet_step ((intro hs'; first
                      | (go_at_call 17; exact (HSM.out _ hs').mono fun e w' h => ⟨h.1, hs'.trans (h.2.mono hs'.size)⟩)
                      | (go_at_call 18; exact (HAT.out _ hs').mono fun e w' h => ⟨h.1, hs'.trans (h.2.mono hs'.size)⟩)
                      | (go_at_call 19; exact (dev_names_nil _).mono fun e w' h => ⟨h.1, h.2 ▸ hs'⟩)
                      | (go_at_call 20; exact (dev_heads_nil _).mono fun e w' h => ⟨h.1, h.2 ▸ hs'⟩)
                      | (go_at_call 21; exact (dev_waits_nil _).mono fun e w' h => ⟨h.1, h.2 ▸ hs'⟩)
                      | (go_at_call 22; exact (dev_past_nil n _).mono fun e w' h => ⟨h.1, hs'.trans (h.2.mono hs'.size)⟩)
                      | rfl)))
                refine wpQuiet_nil ?_
                intro w30 hs30
                have HEND := Lib.hid (HFB.out.trans (hs30.mono HFB.out.size))
                clear hs30
                go_wp2_with fail
                go_ret
                exact ⟨rfl, HEND.out⟩
              · have HGE := Lib.hid (geq_no hq)
                clear hq
                go_upto_region 23 with (fail)
                refine wp_region_class (fun w' => Below w29.heap.size w29 w') (by kernel_rfl) (by kernel_rfl) (Below.refl _ _).drew ?_
                repeat (first
                  | go_big_quiet_skip
                  | (go_big_quiet_want; refine quiet_load_cells 38 _ rfl g24 (opV xo p1 k1) 38 _ rfl HCA.out Tryz.underlying38 rfl HSV24.out ?_; go_big_quiet_on; simp only [Act.put, List.setIfInBounds_toArray, List.set_cons_zero, List.set_cons_succ])
                  | (go_big_quiet_want; refine quiet_load_cells 38 _ rfl g26 (opV xo p2 k2) 38 _ rfl HCB.out Tryz.underlying38 rfl HSV26.out ?_; go_big_quiet_on; simp only [Act.put, List.setIfInBounds_toArray, List.set_cons_zero, List.set_cons_succ])
                  | (go_big_quiet_want; refine quiet_load_nums 24 _ rfl g7 .u8 n 24 _ rfl HXN.out Tryz.underlying24 rfl HSN.out ?_; go_big_quiet_on; simp only [Act.put, List.setIfInBounds_toArray, List.set_cons_zero, List.set_cons_succ])
                  | (go_big_quiet_want; refine quiet_bin .eql 40 40 _ _ rfl (.int .i64 ce) (.int .i64 ce) _ rfl rfl (fun w => rfl) HCQ.out ?_; go_big_quiet_on; simp only [Act.put, List.setIfInBounds_toArray, List.set_cons_zero, List.set_cons_succ])
                  | (go_big_quiet_want; refine quiet_bin .geq 3 3 _ _ rfl (.int .i64 qq) (.int .i64 0) _ rfl rfl (fun w => rfl) HGE.out ?_; go_big_quiet_on; simp only [Act.put, List.setIfInBounds_toArray, List.set_cons_zero, List.set_cons_succ])
                  | go_big_quiet_step ((intro hs'; first
                      | (go_at_call 17; exact (HSM.out _ hs').mono fun e w' h => ⟨h.1, hs'.trans (h.2.mono hs'.size)⟩)
                      | (go_at_call 18; exact (HAT.out _ hs').mono fun e w' h => ⟨h.1, hs'.trans (h.2.mono hs'.size)⟩)
                      | (go_at_call 19; exact (dev_names_nil _).mono fun e w' h => ⟨h.1, h.2 ▸ hs'⟩)
                      | (go_at_call 20; exact (dev_heads_nil _).mono fun e w' h => ⟨h.1, h.2 ▸ hs'⟩)
                      | (go_at_call 21; exact (dev_waits_nil _).mono fun e w' h => ⟨h.1, h.2 ▸ hs'⟩)
                      | (go_at_call 22; exact (dev_past_nil n _).mono fun e w' h => ⟨h.1, hs'.trans (h.2.mono hs'.size)⟩)
                      | rfl)))
                refine wpQuiet_nil ?_
                intro w30 hs30
                have HEND := Lib.hid (HFB.out.trans (hs30.mono HFB.out.size))
                clear hs30
                go_wp2_with fail
                go_ret
                exact ⟨rfl, HEND.out⟩
        · have q4 : decide ((100 : Int) < (d.val.length : Int)) = true := decide_eq_true (by omega)
          go_wp2_with fail
          go_ret
          exact ⟨rfl, HB2.out⟩
      · have q3 : decide ((100 : Int) < (d.key.length : Int)) = true := decide_eq_true (by omega)
        go_wp2_with fail
        go_ret
        exact ⟨rfl, HB2.out⟩
  · have q1 : decide ((60 : Int) < (nr : Int)) = true := decide_eq_true (by omega)
    go_wp2_with fail
    go_ret
    exact ⟨rfl, HB2.out⟩
end dagDoes
end Go.Proofs.YtandadfphlandaaGreatDoor
namespace Go.Proofs.YtandadfphlandaaGreatDoor.dagDoes
open Go.ChangeShapes Go.WideShapes Go.ChangeAt Go.RowKit
open Go.ChangeMaps (open_string shut_string)
set_option linter.unusedVariables false
theorem laid_met (os : Os) : laidMet Tryz.prog Rows.dagDoesRow.laid ((laidWorld os).forCall (fun _ _ => 0) ⟨#[], #[.slice none 0 0, .slice none 0 0, .agg (nums .u8 zeroI).toArray, .int .i64 0, .agg (draftV zeroD)], []⟩).memory :=
  laidMet_of_run' 8 (by kernel_rfl) (by kernel_rfl)
theorem reads (os : Os) {H : Type} (enc : TypeId × Value → H) : ∃ x, DataW.whole enc Tryz.prog ((laidWorld os).forCall (fun _ _ => 0) ⟨#[], #[.slice none 0 0, .slice none 0 0, .agg (nums .u8 zeroI).toArray, .int .i64 0, .agg (draftV zeroD)], []⟩).memory Tryz.f3.params.toList Rows.dagDoesSpec.vars false (#[.slice none 0 0, .slice none 0 0, .agg (nums .u8 zeroI).toArray, .int .i64 0, .agg (draftV zeroD)] : Array Value).toList 8 = some x :=
  ⟨([.nil, .nil, .agg [.lit (.int .u8 0), .lit (.int .u8 0), .lit (.int .u8 0), .lit (.int .u8 0), .lit (.int .u8 0), .lit (.int .u8 0), .lit (.int .u8 0), .lit (.int .u8 0), .lit (.int .u8 0), .lit (.int .u8 0), .lit (.int .u8 0), .lit (.int .u8 0), .lit (.int .u8 0), .lit (.int .u8 0), .lit (.int .u8 0), .lit (.int .u8 0), .lit (.int .u8 0), .lit (.int .u8 0), .lit (.int .u8 0), .lit (.int .u8 0), .lit (.int .u8 0), .lit (.int .u8 0), .lit (.int .u8 0), .lit (.int .u8 0), .lit (.int .u8 0), .lit (.int .u8 0), .lit (.int .u8 0), .lit (.int .u8 0), .lit (.int .u8 0), .lit (.int .u8 0), .lit (.int .u8 0), .lit (.int .u8 0)], .lit (.int .i64 0), .agg [.lit (.int .i64 0), .lit (.string []), .lit (.string []), .agg [.lit (.int .u8 0), .lit (.int .u8 0), .lit (.int .u8 0), .lit (.int .u8 0), .lit (.int .u8 0), .lit (.int .u8 0), .lit (.int .u8 0), .lit (.int .u8 0), .lit (.int .u8 0), .lit (.int .u8 0), .lit (.int .u8 0), .lit (.int .u8 0), .lit (.int .u8 0), .lit (.int .u8 0), .lit (.int .u8 0), .lit (.int .u8 0), .lit (.int .u8 0), .lit (.int .u8 0), .lit (.int .u8 0), .lit (.int .u8 0), .lit (.int .u8 0), .lit (.int .u8 0), .lit (.int .u8 0), .lit (.int .u8 0), .lit (.int .u8 0), .lit (.int .u8 0), .lit (.int .u8 0), .lit (.int .u8 0), .lit (.int .u8 0), .lit (.int .u8 0), .lit (.int .u8 0), .lit (.int .u8 0)]]], [], []), by kernel_rfl⟩
set_option maxRecDepth 100000 in
theorem lifted (os : Os) (started : os.Started) (H : Type) (enc : TypeId × Value → H) (F : Stop.Interp) :
    ReturnsInHanded {} Tryz.checked os 3 .any ((OpenSpec.ofChange Rows.dagDoesSpec).preRow enc Tryz.prog Tryz.f3 Rows.dagDoesRow.domain false Rows.dagDoesRow.laid) (((OpenSpec.ofChange Rows.dagDoesSpec).at F).post enc Tryz.prog Tryz.f3 false true false false) := by
  obtain ⟨x, hx⟩ := reads os enc
  refine returnsInHanded_of_row (C := Tryz.checked) (s := OpenSpec.ofChange Rows.dagDoesSpec) law_own started (by kernel_rfl) Tryz.func3
    (witness_row_at (enc := enc) (C := Tryz.checked) false (laidWorld os) #[.slice none 0 0, .slice none 0 0, .agg (nums .u8 zeroI).toArray, .int .i64 0, .agg (draftV zeroD)] rfl (by kernel_rfl) (by kernel_rfl) (by kernel_rfl)
      (OpenSpec.preRow_of_cond 8 hx rfl (fun k hk => by cases hk) (by kernel_rfl) (laid_met os))) ?_
  intro W base args ds gs before hval0 hW hcnd _ hsz0 hL _ _
  have hk : KAt W := k_laid hL
  have hsz : (DataW.weightsEach Tryz.prog (Tryz.f3.params.toList ++ (OpenSpec.ofChange Rows.dagDoesSpec).bare.plain.varTypes Tryz.prog) (ds ++ gs)).all (· ≤ reachBytes) = true := hsz0
  have hval : ∀ (j : Nat) t v, Tryz.f3.params[j]? = some t → args[j]? = some v → Value.okWide Tryz.prog W .any base t v := hval0
  have hW' := hW
  obtain ⟨p, q, hA0, hV, rfl, hfz, hnd⟩ := hW
  have hA : DataW.TrodAll enc Tryz.prog W 0 (fun _ => true) true Tryz.f3.params.toList args.toList ds p := hA0
  rw [Tryz.params3] at hA hval hsz
  obtain ⟨v0, vs0, d0, ds0, p0, q0, hargs, rfl, rfl, h0, r0⟩ := trodAll_cons hA
  obtain ⟨v1, vs1, d1, ds1, p1, q1, rfl, rfl, rfl, h1, r1⟩ := trodAll_cons r0
  obtain ⟨v2, vs2, d2, ds2, p2, q2, rfl, rfl, rfl, h2, r2⟩ := trodAll_cons r1
  obtain ⟨v3, vs3, d3, ds3, p3, q3, rfl, rfl, rfl, h3, r3⟩ := trodAll_cons r2
  obtain ⟨v4, vs4, d4, ds4, p4, q4, rfl, rfl, rfl, h4, r4⟩ := trodAll_cons r3
  obtain ⟨rfl, rfl, rfl⟩ := trodAll_nil r4
  obtain rfl : args = #[v0, v1, v2, v3, v4] := by cases args; simp_all
  obtain ⟨rfl, rfl⟩ := trodVars_none hV
  have k0 := h0
  have lt0 : ∀ x ∈ p0, x.block < W.heap.size := by obtain ⟨m, hm⟩ := k0; exact DataW.trod_lt m _ _ _ hm
  have z0 : ∀ n ∈ DataW.weights Tryz.prog 22 d0, n ≤ 140737488351232 := fun n hn => of_decide_eq_true (List.all_eq_true.1 hsz n (DataW.weights_mem_each (j := 0) (t := 22) rfl rfl n hn))
  obtain ⟨ao0, l0, c0, rfl, s0, n0, t0⟩ := open_makes (hval 0 22 v0 rfl rfl) h0 z0
  have k1 := h1
  have lt1 : ∀ x ∈ p1, x.block < W.heap.size := by obtain ⟨m, hm⟩ := k1; exact DataW.trod_lt m _ _ _ hm
  have z1 : ∀ n ∈ DataW.weights Tryz.prog 23 d1, n ≤ 140737488351232 := fun n hn => of_decide_eq_true (List.all_eq_true.1 hsz n (DataW.weights_mem_each (j := 1) (t := 23) rfl rfl n hn))
  obtain ⟨ao1, l1, c1, rfl, s1, n1, t1⟩ := open_int_slice (hval 1 23 v1 rfl rfl) h1 z1
  have k2 := h2
  have lt2 : ∀ x ∈ p2, x.block < W.heap.size := by obtain ⟨m, hm⟩ := k2; exact DataW.trod_lt m _ _ _ hm
  have z2 : ∀ n ∈ DataW.weights Tryz.prog 24 d2, n ≤ 140737488351232 := fun n hn => of_decide_eq_true (List.all_eq_true.1 hsz n (DataW.weights_mem_each (j := 2) (t := 24) rfl rfl n hn))
  obtain ⟨l2, rfl, n2⟩ := open_name Tryz.underlying24 Tryz.underlying5 (by kernel_rfl) (by kernel_rfl) (hval 2 24 v2 rfl rfl) h2
  obtain ⟨a3, rfl, rfl, rfl, w3⟩ := open_int Tryz.underlying3 (hval 3 3 v3 rfl rfl) h3
  have k4 := h4
  have lt4 : ∀ x ∈ p4, x.block < W.heap.size := by obtain ⟨m, hm⟩ := k4; exact DataW.trod_lt m _ _ _ hm
  have z4 : ∀ n ∈ DataW.weights Tryz.prog 27 d4, n ≤ 140737488351232 := fun n hn => of_decide_eq_true (List.all_eq_true.1 hsz n (DataW.weights_mem_each (j := 4) (t := 27) rfl rfl n hn))
  obtain ⟨x4, rfl, n4⟩ := open_draft (hval 4 27 v4 rfl rfl) h4 z4
  clear hA0 hval0
  refine (walk W hk ao0 l0 c0 s0 n0 t0 ao1 l1 c1 s1 n1 t1 l2 n2 a3 w3 x4 n4).mono fun e W' ⟨he, bel⟩ => ?_
  subst he
  exact ⟨_, rfl, _, _, _, [], _, [], hW', trodAll_mk1 (shut_bool Tryz.underlying4 _), (trodAll_cons_mk (Below.trod law_laidOut (by kernel_rfl) (of_decide_eq_true (by kernel_rfl)) k0 bel lt0) (trodAll_cons_mk (Below.trod law_laidOut (by kernel_rfl) (of_decide_eq_true (by kernel_rfl)) k1 bel lt1) (trodAll_cons_mk (Below.trod law_laidOut (by kernel_rfl) (of_decide_eq_true (by kernel_rfl)) k2 bel lt2) (trodAll_cons_mk (shut_int Tryz.underlying3 w3) (trodAll_cons_mk (Below.trod law_laidOut (by kernel_rfl) (of_decide_eq_true (by kernel_rfl)) k4 bel lt4) trodAll_mk0))))), rfl, bel.frame _, fun h => by cases h⟩
theorem said : Rows.DagDoesSaid :=
  OpenClaim.holds_of_cond 3 Tryz.f3 rfl rfl rfl rfl rfl rfl rfl ⟨rfl, rfl, rfl, rfl, rfl⟩ rfl rfl rfl rfl rfl (by kernel_rfl) Tryz.func3 (by kernel_rfl)
    (of_decide_eq_true (by kernel_rfl)) (by unfold Func.isWrapper; first | (rw [if_pos (by decide +kernel)]; kernel_rfl) | (rw [if_neg (by decide +kernel)]; exact ⟨rfl, rfl⟩))
    (fun os started H enc _ F => by rw [OpenClaim.pre_eq_preRow]; exact lifted os started H enc F)
theorem plain (f : FuncId) (fn : Func) (hf : Tryz.pinned.checked.prog.funcNamed "tribunal/tribunallaw10.DagDoes" = some f) (hfn : Tryz.pinned.checked.prog.funcs[f]? = some fn) :
    true = Tryz.pinned.checked.prog.looks [] ∧ ∀ (j : Nat) t, fn.params[j]? = some t → Tryz.pinned.checked.prog.wantsStandIn t = false := by
  obtain rfl : f = 3 := Option.some.inj ((show Tryz.prog.funcNamed "tribunal/tribunallaw10.DagDoes" = some 3 by kernel_rfl).symm.trans hf) |>.symm
  obtain rfl : fn = Tryz.f3 := (Option.some.inj (Tryz.func3.symm.trans hfn)).symm
  refine ⟨by kernel_rfl, fun j t ht => ?_⟩
  have hall : Tryz.f3.params.toList.all (fun t => !Tryz.prog.wantsStandIn t) = true := by kernel_rfl
  have hm : t ∈ Tryz.f3.params.toList := Array.mem_toList_iff.2 (Array.mem_of_getElem? ht)
  have h0 := List.all_eq_true.1 hall t hm
  have h1 : Tryz.prog.wantsStandIn t = false := by simpa using h0
  exact h1
theorem proved : Rows.DagDoesCardSaid :=
  Claim7.holds_tied_plain_at .later [] _ _ _ _ said (fun _ h => by cases h) (by kernel_rfl) (fun _ h => by cases h) dagDoes_row_tie rfl ⟨rfl, rfl⟩ (by kernel_rfl) rfl plain (by kernel_rfl)
#print axioms proved
end Go.Proofs.YtandadfphlandaaGreatDoor.dagDoes
