/-
  The developers' Good.
-/
import Derived.Test.YthgfpojfnhkckaaDoorOpCmpB
import Derived.Test.YthgfpojfnhkckaaDoorOpGoodD
namespace Go.Proofs.YthgfpojfnhkckaaDoor
open Go.RowKit Go.BigFrame

theorem cmpN_cases : ∀ (a b : List Nat), cmpN a b = -1 ∨ cmpN a b = 0 ∨ cmpN a b = 1
  | [], [] => .inr (.inl (by rw [cmpN]; intro a x b y h; cases h))
  | [], _ :: _ => .inr (.inl (by rw [cmpN]; intro a x b y h; cases h))
  | _ :: _, [] => .inr (.inl (by rw [cmpN]; intro a x b y h h2; cases h2))
  | a :: x, b :: y => by
    rw [cmpN]
    split
    · exact .inl rfl
    · split
      · exact .inr (.inr rfl)
      · exact cmpN_cases x y
def goodP (L : List (List Nat)) : Bool := decide (L.length ≤ 32 ∧ AscN L)
set_option maxHeartbeats 4000000 in
set_option maxRecDepth 100000 in
theorem dev_goodPreds (L : List (List Nat)) (pa : Option Addr) (pc : Nat) (w : World) (hL : ∀ p ∈ L, IdOk p) (hp : IAt pa L w) (hn : L.length ≤ 140737488351232) :
    Calls Tryd.prog 25 #[.slice pa L.length pc] w fun e w' => e = .returned (.bool (goodP L)) ∧ Below w.heap.size w w' := by
  have HP := Lib.hid hp
  have HO := Lib.hid hL
  obtain ⟨n, hnn⟩ : ∃ n, L.length = n := ⟨_, rfl⟩
  have HNN := Shut.mk hnn
  rw [hnn] at hn ⊢
  clear hnn hp hL
  by_cases h32 : 32 < n
  · have HR := Shut.mk (show goodP L = false from decide_eq_false (fun h => by have := h.1; rw [HNN.out] at this; omega))
    have h32i : (32 : Int) < (n : Int) := by omega
    go_enter Tryd.func25, Tryd.ntmps25
    go_wp2_with fail
    go_ret
    exact ⟨by rw [HR.out]; rfl, Below.refl _ _⟩
  have h32i : ¬ (32 : Int) < (n : Int) := by omega
  go_enter Tryd.func25, Tryd.ntmps25
  go_wp2_with fail
  go_loopw [3] (fun i wr => ∃ k : Nat, 1 ≤ k ∧ (k ≤ n ∨ k = 1) ∧ i = .int .i64 k ∧ (∀ j, j < k → 0 < j → cmpN (L.getD (j - 1) []) (L.getD j []) = -1) ∧ Below w.heap.size w wr) (fun i _ => n - (intOf i).toNat)
  case atStart => exact ⟨1, Nat.le_refl _, .inr rfl, rfl, fun j hj h => by omega, Below.refl _ _⟩
  case round =>
    obtain ⟨k, hk1, hk, rfl, hasc, hb⟩ := hrel
    have HPW := Lib.hid (HP.out.below hb)
    have HASC := Lib.hid hasc
    have HBW := Lib.hid hb
    clear hasc hb
    by_cases hlt : k < n
    · obtain ⟨j, rfl⟩ : ∃ j, k = j + 1 := ⟨k - 1, by omega⟩
      obtain ⟨b, ob, rfl, hbl⟩ := HPW.out.some (by rw [HNN.out]; omega)
      have g1 := HPW.out.get (i := j) (by rw [HNN.out]; omega)
      have g2 := HPW.out.get (i := j + 1) (by rw [HNN.out]; omega)
      have i1 := Ids.getD HO.out (i := j) (by rw [HNN.out]; omega)
      have i2 := Ids.getD HO.out (i := j + 1) (by rw [HNN.out]; omega)
      obtain ⟨x, hx⟩ : ∃ x, L.getD j [] = x := ⟨_, rfl⟩
      obtain ⟨y, hy⟩ : ∃ y, L.getD (j + 1) [] = y := ⟨_, rfl⟩
      rw [hx] at g1 i1
      rw [hy] at g2 i2
      have HXE := Shut.mk hx
      have HYE := Shut.mk hy
      have HC := Lib.hid (fun w' => dev_compare x y i1 i2 w')
      have HR1 := Lib.hid (fun (w' : World) (q : Below wr.heap.size wr w') => show w'.rangeAt b (ob + j * 32) (nums .u8 x) from rangeAt_belowI g1 q hbl)
      have HR2 := Lib.hid (fun (w' : World) (q : Below wr.heap.size wr w') => show w'.rangeAt b (ob + (j + 1) * 32) (nums .u8 y) from rangeAt_belowI g2 q hbl)
      have HS1 := Lib.hid (show (Tryd.prog.info? 25).map (·.size) = some x.length by rw [i1.1]; exact Tryd.sizeI)
      have HS2 := Lib.hid (show (Tryd.prog.info? 25).map (·.size) = some y.length by rw [i2.1]; exact Tryd.sizeI)
      obtain ⟨r, hr⟩ : ∃ r, cmpN x y = r := ⟨_, rfl⟩
      have hrc := cmpN_cases x y
      rw [hr] at HC hrc
      have HRE := Shut.mk hr
      have HJ1 := Shut.mk (show ((j + 1 : Nat) : Int) - 1 = (j : Int) by omega)
      clear hx hy g1 g2 i1 i2 hr
      by_cases hrr : r = -1
      · subst hrr
        clear hrc
        go_upto_region 6 with (fail)
        refine wp_region_class (fun w' => Below wr.heap.size wr w') (by kernel_rfl) (by kernel_rfl) (Below.refl _ _).drew ?_
        repeat (first
          | go_big_quiet_skip
          | (go_big_quiet_want; refine quiet_load_id 25 _ rfl b (ob + j * 32) x _ rfl HR1.out Tryd.underlying25 rfl HS1.out ?_; go_big_quiet_on; simp only [Act.put, List.setIfInBounds_toArray, List.set_cons_zero, List.set_cons_succ])
          | (go_big_quiet_want; refine quiet_load_id 25 _ rfl b (ob + (j + 1) * 32) y _ rfl HR2.out Tryd.underlying25 rfl HS2.out ?_; go_big_quiet_on; simp only [Act.put, List.setIfInBounds_toArray, List.set_cons_zero, List.set_cons_succ])
          | go_big_quiet_step ((intro hs'; first
              | rfl
              | (go_at_call 35; exact (HC.out _).mono fun e w' h => ⟨h.1, hs'.trans (h.2.mono hs'.size)⟩))))
        refine wpQuiet_nil ?_
        intro w2 hb2
        go_wp2_with fail
        refine ⟨⟨j + 1 + 1, by omega, by omega, by go_num, fun q hq h => ?_, HBW.out.trans (hb2.mono HBW.out.size)⟩, by simp [intOf]; omega⟩
        by_cases hqj : q = j + 1
        · subst hqj
          rw [Nat.add_sub_cancel, HXE.out, HYE.out]
          exact HRE.out
        · exact HASC.out q (by omega) h
      · have hr0 : (0 : Int) ≤ r := by omega
        have HGF := Shut.mk (show goodP L = false from decide_eq_false (fun h => hrr (by
          have h1 := h.2 (j + 1) (by rw [HNN.out]; omega) (by omega)
          rw [Nat.add_sub_cancel, HXE.out, HYE.out] at h1
          rw [← HRE.out, h1])))
        clear hrr hrc
        go_upto_region 6 with (fail)
        refine wp_region_class (fun w' => Below wr.heap.size wr w') (by kernel_rfl) (by kernel_rfl) (Below.refl _ _).drew ?_
        repeat (first
          | go_big_quiet_skip
          | (go_big_quiet_want; refine quiet_load_id 25 _ rfl b (ob + j * 32) x _ rfl HR1.out Tryd.underlying25 rfl HS1.out ?_; go_big_quiet_on; simp only [Act.put, List.setIfInBounds_toArray, List.set_cons_zero, List.set_cons_succ])
          | (go_big_quiet_want; refine quiet_load_id 25 _ rfl b (ob + (j + 1) * 32) y _ rfl HR2.out Tryd.underlying25 rfl HS2.out ?_; go_big_quiet_on; simp only [Act.put, List.setIfInBounds_toArray, List.set_cons_zero, List.set_cons_succ])
          | go_big_quiet_step ((intro hs'; first
              | rfl
              | (go_at_call 35; exact (HC.out _).mono fun e w' h => ⟨h.1, hs'.trans (h.2.mono hs'.size)⟩))))
        refine wpQuiet_nil ?_
        intro w2 hb2
        go_wp2_with fail
        go_ret
        exact ⟨by rw [HGF.out]; rfl, HBW.out.trans (hb2.mono HBW.out.size)⟩
    · have hge : ¬ (k : Int) < (n : Int) := by omega
      have HR := Shut.mk (show goodP L = true from decide_eq_true ⟨by rw [HNN.out]; omega, fun j hj h0 => HASC.out j (by rw [HNN.out] at hj; omega) h0⟩)
      go_wp2_with fail
      go_ret
      exact ⟨by rw [HR.out]; rfl, HBW.out⟩
def fitsD (o : OpN) : Bool := if o.preds = [] then decide (o.depth = 1) else decide (1 < o.depth)
theorem good_parts (o : OpN) : GoodO o ↔ GoodD o.d ∧ 0 ≤ o.author ∧ o.author < 5 ∧ goodP o.preds = true ∧ fitsD o = true := by
  unfold GoodO goodP fitsD
  by_cases h : o.preds = []
  · simp only [h, if_true, decide_eq_true_eq]
    constructor
    · rintro ⟨h1, h2, h3, h4, h5, h6, h7⟩
      exact ⟨h5, h6, by omega, ⟨h4, h1⟩, h2 trivial⟩
    · rintro ⟨h5, h6, h7, ⟨h4, h1⟩, h2⟩
      exact ⟨h1, fun _ => h2, fun h => absurd rfl h, h4, h5, h6, by omega⟩
  · simp only [h, if_false, decide_eq_true_eq]
    constructor
    · rintro ⟨h1, h2, h3, h4, h5, h6, h7⟩
      have := h3 h
      exact ⟨h5, h6, by omega, ⟨h4, h1⟩, by omega⟩
    · rintro ⟨h5, h6, h7, ⟨h4, h1⟩, h2⟩
      exact ⟨h1, fun h => (h.elim), fun _ => by omega, h4, h5, h6, by omega⟩
set_option maxHeartbeats 4000000 in
set_option maxRecDepth 100000 in
theorem dev_fitsDepth (o : OpN) (pa : Option Addr) (pc : Nat) (w : World) (hr : o.d.ref.length = 32) :
    Calls Tryd.prog 26 #[.agg (opV o pa pc)] w fun e w' => e = .returned (.bool (fitsD o)) ∧ Below w.heap.size w w' := by
  have hx : Cells w.heap.size 30 (opV o pa pc) (w.alloc (.cells (opV o pa pc) 30)) := heap_alloc_new w _
  have hb : Below w.heap.size w (w.alloc (.cells (opV o pa pc) 30)) := (Below.refl _ _).alloc (Nat.le_refl _) _
  obtain ⟨_, _, c36, c37⟩ := op_cells hr hx
  have HB := Lib.hid hb
  obtain ⟨n, hnn⟩ : ∃ n, o.preds.length = n := ⟨_, rfl⟩
  obtain ⟨D, hD⟩ : ∃ D, o.depth = D := ⟨_, rfl⟩
  have HG := Shut.mk (show fitsD o = if n = 0 then decide (D = 1) else decide (1 < D) by
    rw [fitsD, hD, ← hnn]
    by_cases h : o.preds = []
    · simp [h]
    · rw [if_neg h, if_neg (fun e => h (List.length_eq_zero_iff.1 e))])
  rw [hnn] at c37
  rw [hD] at c36
  clear hx hb hnn hD
  by_cases h0 : n = 0
  · subst h0
    have HR := Shut.mk (show fitsD o = (D == 1) by rw [HG.out, if_pos rfl]; by_cases h : D = 1 <;> simp [h])
    go_enter Tryd.func26, Tryd.ntmps26
    go_wp2_with fail
    go_ret
    exact ⟨by rw [HR.out]; rfl, HB.out⟩
  have h0b : ((n : Int) == 0) = false := by simp; omega
  have HR := Shut.mk (show fitsD o = decide (1 < D) by rw [HG.out, if_neg h0])
  go_enter Tryd.func26, Tryd.ntmps26
  go_wp2_with fail
  go_ret
  exact ⟨by rw [HR.out]; rfl, HB.out⟩
set_option maxHeartbeats 4000000 in
set_option maxRecDepth 100000 in
theorem dev_goodOp (o : OpN) (pa : Option Addr) (pc : Nat) (w : World) (ho : o.Ok) (hp : IAt pa o.preds w) (hk : o.d.key.length ≤ 140737488351232) (hv : o.d.val.length ≤ 140737488351232) (hn : o.preds.length ≤ 140737488351232) :
    Calls Tryd.prog 16 #[.agg (opV o pa pc)] w fun e w' => e = .returned (.bool (decide (GoodO o))) ∧ Below w.heap.size w w' := by
  have hx : Cells w.heap.size 30 (opV o pa pc) (w.alloc (.cells (opV o pa pc) 30)) := heap_alloc_new w _
  have hb : Below w.heap.size w (w.alloc (.cells (opV o pa pc) 30)) := (Below.refl _ _).alloc (Nat.le_refl _) _
  have HX := Lib.hid hx
  have HB := Lib.hid hb
  have HP := Lib.hid (hp.below hb)
  have HO := Lib.hid ho
  have HSO := Lib.hid (show (Tryd.prog.info? 30).map (·.size) = some (opV o pa pc).size by rw [opV_size ho.ref.1]; exact Tryd.sizeO)
  have HSD := Lib.hid (show (Tryd.prog.info? 27).map (·.size) = some (draftL o.d).length by rw [draftL_len ho.ref.1]; exact Tryd.sizeD)
  have HGD := Lib.hid (fun w' => dev_goodDraft o.d ho.ref hk hv w')
  have HFD := Lib.hid (fun w' => dev_fitsDepth o pa pc w' ho.ref.1)
  have HGP := Lib.hid (fun w' h => dev_goodPreds o.preds pa pc w' ho.preds h hn)
  obtain ⟨n, hnn⟩ : ∃ n, o.preds.length = n := ⟨_, rfl⟩
  obtain ⟨A, hA⟩ : ∃ A, o.author = A := ⟨_, rfl⟩
  obtain ⟨zd, hzd⟩ : ∃ z, decide (GoodD o.d) = z := ⟨_, rfl⟩
  obtain ⟨zp, hzp⟩ : ∃ z, goodP o.preds = z := ⟨_, rfl⟩
  obtain ⟨zf, hzf⟩ : ∃ z, fitsD o = z := ⟨_, rfl⟩
  have HG := Shut.mk (show decide (GoodO o) = decide (zd = true ∧ 0 ≤ A ∧ A < 5 ∧ zp = true ∧ zf = true) from decide_eq_decide.2 (by rw [good_parts, hA, hzp, hzf, ← hzd, decide_eq_true_eq]))
  rw [hzd] at HGD
  rw [hzp, hnn] at HGP
  rw [hzf] at HFD
  have HNN := Shut.mk hnn
  have HAA := Shut.mk hA
  clear hx hb hp ho hk hv hn hnn hA hzd hzp hzf
  go_enter Tryd.func16, Tryd.ntmps16
  go_upto_region 1 with (fail)
  obtain ⟨w1, hw1⟩ : ∃ x, x = w.alloc (.cells (opV o pa pc) 30) := ⟨_, rfl⟩
  rw [← hw1] at HX HB HP ⊢
  obtain ⟨c0, c35, c36, c37⟩ := op_cells HO.out.ref.1 HX.out
  have HC0 := Lib.hid c0
  have HC35 := Lib.hid c35
  have HC37 := Lib.hid c37
  rw [HAA.out] at HC35
  rw [HNN.out] at HC37
  clear hw1 c0 c35 c36 c37
  refine wp_region_lit ?_
  iterate 3 (first | go_skip | go_guarded | go_step)
  refine wpList_load_mid rfl 27 _ rfl w.heap.size 0 rfl _ _ HC0.out Tryd.underlying27 rfl HSD.out ?_
  simp only [Act.put, List.setIfInBounds_toArray, List.set_cons_zero, List.set_cons_succ]
  go_wp2_with fail
  refine (HGD.out _).mono ?_
  rintro e w2 ⟨rfl, hb⟩
  have HX2 := Lib.hid (HX.out.below hb)
  have HP2 := Lib.hid (HP.out.below hb)
  have HB2 := Lib.hid (HB.out.trans (hb.mono HB.out.size))
  have c35 := (hb.cell (p := ⟨w.heap.size, 35, none⟩) HX.out.lt).trans HC35.out
  have c37 := (hb.cell (p := ⟨w.heap.size, 37, none⟩) HX.out.lt).trans HC37.out
  clear hb HX HP HB HC0 HC35 HC37 HGD
  cases zd with
  | false =>
    have HR := Shut.mk (HG.out.trans (decide_eq_false (fun h => by cases h.1)))
    go_wp2_with fail
    go_ret
    exact ⟨by rw [HR.out]; rfl, HB2.out⟩
  | true =>
  by_cases h0 : A < 0
  · have h0b : decide ((0 : Int) ≤ A) = false := decide_eq_false (by omega)
    have HR := Shut.mk (HG.out.trans (decide_eq_false (fun h => by omega)))
    go_wp2_with fail
    go_ret
    exact ⟨by rw [HR.out]; rfl, HB2.out⟩
  have h0b : decide ((0 : Int) ≤ A) = true := decide_eq_true (by omega)
  by_cases h5 : 5 ≤ A
  · have h5b : decide (A < 5) = false := decide_eq_false (by omega)
    have HR := Shut.mk (HG.out.trans (decide_eq_false (fun h => by omega)))
    go_wp2_with fail
    go_ret
    exact ⟨by rw [HR.out]; rfl, HB2.out⟩
  have h5b : decide (A < 5) = true := decide_eq_true (by omega)
  have HR := Shut.mk (show decide (GoodO o) = (zp && zf) by rw [HG.out]; cases zp <;> cases zf <;> simp <;> omega)
  go_wp2_with fail
  refine (HGP.out _ HP2.out).mono ?_
  rintro e w3 ⟨rfl, hb⟩
  have HX3 := Lib.hid (HX2.out.below hb)
  have HB3 := Lib.hid (HB2.out.trans (hb.mono HB2.out.size))
  clear hb HX2 HP2 HB2 c35 c37 HGP
  cases zp with
  | false =>
    go_wp2_with fail
    go_ret
    exact ⟨by rw [HR.out]; rfl, HB3.out⟩
  | true =>
  go_wp2_with (refine wpList_load_cells_want (by rfl) 30 _ rfl w.heap.size (opV o pa pc) 30 _ rfl HX3.out Tryd.underlying30 rfl HSO.out ?_)
  refine (HFD.out _).mono ?_
  rintro e w4 ⟨rfl, hb⟩
  have HB4 := Lib.hid (HB3.out.trans (hb.mono HB3.out.size))
  clear hb HX3 HB3 HFD
  go_wp2_with fail
  go_ret
  exact ⟨by rw [HR.out]; rfl, HB4.out⟩
end Go.Proofs.YthgfpojfnhkckaaDoor
