/-
  The document's Same.
-/
import Derived.Test.YthgfpojfnhkckaaDoorOpEq
namespace Go.Proofs.YthgfpojfnhkckaaDoor
open Go.RowKit Go.BigFrame

theorem getD_all {L M : List (List Nat)} {n : Nat} (hl : L.length = n) (hm : M.length = n) (h : ∀ j, j < n → L.getD j [] = M.getD j []) : L = M := by
  refine List.ext_getElem (by omega) fun j h1 h2 => ?_
  have := h j (by omega)
  rwa [List.getD_eq_getElem?_getD, List.getD_eq_getElem?_getD, List.getElem?_eq_getElem h1, List.getElem?_eq_getElem h2] at this
theorem op_eq_iff (a b : OpN) : a = b ↔ a.d = b.d ∧ a.author = b.author ∧ a.depth = b.depth ∧ a.preds = b.preds := by
  obtain ⟨a1, a2, a3, a4⟩ := a
  obtain ⟨b1, b2, b3, b4⟩ := b
  simp
set_option maxHeartbeats 4000000 in
set_option maxRecDepth 100000 in
theorem ref_same9 (a b : OpN) (pa pb : Option Addr) (pc pd : Nat) (w : World) (ha : a.Ok) (hb : b.Ok) (hpa : IAt pa a.preds w) (hpb : IAt pb b.preds w) (hna : a.preds.length ≤ 140737488351232) (hnb : b.preds.length ≤ 140737488351232) :
    Calls Tryd.prog 15 #[.agg (opV a pa pc), .agg (opV b pb pd)] w fun e w' => e = .returned (.bool (decide (a = b))) ∧ Below w.heap.size w w' := by
  have b1 : Below w.heap.size w (w.alloc (.cells (opV a pa pc) 30)) := (Below.refl _ _).alloc (Nat.le_refl _) _
  have x1 : Cells w.heap.size 30 (opV a pa pc) (w.alloc (.cells (opV a pa pc) 30)) := heap_alloc_new w _
  have s1 : (w.alloc (.cells (opV a pa pc) 30)).heap.size = w.heap.size + 1 := World.size_alloc _ _
  have b2 : Below (w.alloc (.cells (opV a pa pc) 30)).heap.size (w.alloc (.cells (opV a pa pc) 30)) ((w.alloc (.cells (opV a pa pc) 30)).alloc (.cells (opV b pb pd) 30)) := (Below.refl _ _).alloc (Nat.le_refl _) _
  have x2 : Cells (w.alloc (.cells (opV a pa pc) 30)).heap.size 30 (opV b pb pd) ((w.alloc (.cells (opV a pa pc) 30)).alloc (.cells (opV b pb pd) 30)) := heap_alloc_new _ _
  rw [s1] at x2
  have HX1 := Lib.hid (x1.below b2)
  have HX2 := Lib.hid x2
  have HB := Lib.hid (b1.trans (b2.mono b1.size))
  have HA := Lib.hid ha
  have HBB := Lib.hid hb
  have HPA := Lib.hid (hpa.below HB.out)
  have HPB := Lib.hid (hpb.below HB.out)
  have HEQ := Shut.mk (op_eq_iff a b)
  have hsd : (Tryd.prog.info? 27).map (·.size) = some (draftL a.d).length := by rw [draftL_len ha.ref.1]; exact Tryd.sizeD
  have hsd2 : (Tryd.prog.info? 27).map (·.size) = some (draftL b.d).length := by rw [draftL_len hb.ref.1]; exact Tryd.sizeD
  have HSD := Lib.hid hsd
  have HSD2 := Lib.hid hsd2
  clear b1 x1 s1 b2 x2 hpa hpb hsd hsd2
  go_enter Tryd.func15, Tryd.ntmps15
  go_upto_region 1 with (fail)
  obtain ⟨w2, hw2⟩ : ∃ x, x = ((w.alloc (.cells (opV a pa pc) 30)).alloc (.cells (opV b pb pd) 30)) := ⟨_, rfl⟩
  rw [← hw2] at HX1 HX2 HB HPA HPB ⊢
  obtain ⟨c0, c35, c36, c37⟩ := op_cells HA.out.ref.1 HX1.out
  obtain ⟨d0, d35, d36, d37⟩ := op_cells HBB.out.ref.1 HX2.out
  have HC0 := Lib.hid c0
  have HD0 := Lib.hid d0
  obtain ⟨A1, hA1⟩ : ∃ x, a.author = x := ⟨_, rfl⟩
  obtain ⟨A2, hA2⟩ : ∃ x, a.depth = x := ⟨_, rfl⟩
  obtain ⟨n, hn⟩ : ∃ x, a.preds.length = x := ⟨_, rfl⟩
  obtain ⟨B1, hB1⟩ : ∃ x, b.author = x := ⟨_, rfl⟩
  obtain ⟨B2, hB2⟩ : ∃ x, b.depth = x := ⟨_, rfl⟩
  obtain ⟨m, hm⟩ : ∃ x, b.preds.length = x := ⟨_, rfl⟩
  have HN := Shut.mk hn
  have HM := Shut.mk hm
  have HEQ2 := Shut.mk (show a = b ↔ a.d = b.d ∧ A1 = B1 ∧ A2 = B2 ∧ a.preds = b.preds by rw [HEQ.out, hA1, hA2, hB1, hB2])
  rw [hA1] at c35
  rw [hA2] at c36
  rw [hn] at c37 hna
  rw [hB1] at d35
  rw [hB2] at d36
  rw [hm] at d37 hnb
  have heq := fun w' => equal_draft a.d b.d ha.ref hb.ref w'
  obtain ⟨z, hz⟩ : ∃ z, decide (a.d = b.d) = z := ⟨_, rfl⟩
  rw [hz] at heq
  have HZ := Shut.mk hz
  unfold draftV at heq
  clear hw2 c0 d0 hA1 hA2 hB1 hB2 hn hm hz ha hb HEQ
  by_cases hz2 : z = false
  · subst hz2
    have HR := Shut.mk (show decide (a = b) = false from decide_eq_false (fun h => by have h1 := (HEQ2.out.1 h).1; have h2 := HZ.out; rw [decide_eq_true h1] at h2; cases h2))
    refine wp_region_lit ?_
    iterate 3 (first | go_skip | go_guarded | go_step)
    refine wpList_load_mid rfl 27 _ rfl w.heap.size 0 rfl _ _ HC0.out Tryd.underlying27 rfl HSD.out ?_
    simp only [Act.put, List.setIfInBounds_toArray, List.set_cons_zero, List.set_cons_succ]
    iterate 3 (first | go_skip | go_guarded | go_step)
    refine wpList_load_mid rfl 27 _ rfl (w.heap.size + 1) 0 rfl _ _ HD0.out Tryd.underlying27 rfl HSD2.out ?_
    simp only [Act.put, List.setIfInBounds_toArray, List.set_cons_zero, List.set_cons_succ]
    go_wp2_with fail
    go_ret
    exact ⟨by rw [HR.out]; rfl, HB.out⟩
  obtain rfl : z = true := by simpa using hz2
  have hd : a.d = b.d := of_decide_eq_true HZ.out
  have HD := Shut.mk hd
  clear hd hz2
  by_cases h1 : ¬ A1 = B1
  · have h1b : (A1 != B1) = true := by simpa using h1
    have HR := Shut.mk (show decide (a = b) = false from decide_eq_false (fun h => h1 (HEQ2.out.1 h).2.1))
    clear h1
    refine wp_region_lit ?_
    iterate 3 (first | go_skip | go_guarded | go_step)
    refine wpList_load_mid rfl 27 _ rfl w.heap.size 0 rfl _ _ HC0.out Tryd.underlying27 rfl HSD.out ?_
    simp only [Act.put, List.setIfInBounds_toArray, List.set_cons_zero, List.set_cons_succ]
    iterate 3 (first | go_skip | go_guarded | go_step)
    refine wpList_load_mid rfl 27 _ rfl (w.heap.size + 1) 0 rfl _ _ HD0.out Tryd.underlying27 rfl HSD2.out ?_
    simp only [Act.put, List.setIfInBounds_toArray, List.set_cons_zero, List.set_cons_succ]
    go_wp2_with fail
    go_ret
    exact ⟨by rw [HR.out]; rfl, HB.out⟩
  have h1 := Classical.not_not.1 h1
  subst h1
  by_cases h2 : ¬ A2 = B2
  · have h2b : (A2 != B2) = true := by simpa using h2
    have HR := Shut.mk (show decide (a = b) = false from decide_eq_false (fun h => h2 (HEQ2.out.1 h).2.2.1))
    clear h2
    refine wp_region_lit ?_
    iterate 3 (first | go_skip | go_guarded | go_step)
    refine wpList_load_mid rfl 27 _ rfl w.heap.size 0 rfl _ _ HC0.out Tryd.underlying27 rfl HSD.out ?_
    simp only [Act.put, List.setIfInBounds_toArray, List.set_cons_zero, List.set_cons_succ]
    iterate 3 (first | go_skip | go_guarded | go_step)
    refine wpList_load_mid rfl 27 _ rfl (w.heap.size + 1) 0 rfl _ _ HD0.out Tryd.underlying27 rfl HSD2.out ?_
    simp only [Act.put, List.setIfInBounds_toArray, List.set_cons_zero, List.set_cons_succ]
    go_wp2_with fail
    go_ret
    exact ⟨by rw [HR.out]; rfl, HB.out⟩
  have h2 := Classical.not_not.1 h2
  subst h2
  by_cases h3 : ¬ n = m
  · have h3b : ((n : Int) == (m : Int)) = false := by simp; omega
    have HR := Shut.mk (show decide (a = b) = false from decide_eq_false (fun h => h3 (by rw [← HN.out, ← HM.out, (HEQ2.out.1 h).2.2.2])))
    refine wp_region_lit ?_
    iterate 3 (first | go_skip | go_guarded | go_step)
    refine wpList_load_mid rfl 27 _ rfl w.heap.size 0 rfl _ _ HC0.out Tryd.underlying27 rfl HSD.out ?_
    simp only [Act.put, List.setIfInBounds_toArray, List.set_cons_zero, List.set_cons_succ]
    iterate 3 (first | go_skip | go_guarded | go_step)
    refine wpList_load_mid rfl 27 _ rfl (w.heap.size + 1) 0 rfl _ _ HD0.out Tryd.underlying27 rfl HSD2.out ?_
    simp only [Act.put, List.setIfInBounds_toArray, List.set_cons_zero, List.set_cons_succ]
    go_wp2_with fail
    go_ret
    exact ⟨by rw [HR.out]; rfl, HB.out⟩
  have h3 := Classical.not_not.1 h3
  subst h3
  have HEQ3 := Shut.mk (show a = b ↔ a.preds = b.preds from ⟨fun h => (HEQ2.out.1 h).2.2.2, fun h => HEQ2.out.2 ⟨HD.out, rfl, rfl, h⟩⟩)
  clear HEQ2
  refine wp_region_lit ?_
  iterate 3 (first | go_skip | go_guarded | go_step)
  refine wpList_load_mid rfl 27 _ rfl w.heap.size 0 rfl _ _ HC0.out Tryd.underlying27 rfl HSD.out ?_
  simp only [Act.put, List.setIfInBounds_toArray, List.set_cons_zero, List.set_cons_succ]
  iterate 3 (first | go_skip | go_guarded | go_step)
  refine wpList_load_mid rfl 27 _ rfl (w.heap.size + 1) 0 rfl _ _ HD0.out Tryd.underlying27 rfl HSD2.out ?_
  simp only [Act.put, List.setIfInBounds_toArray, List.set_cons_zero, List.set_cons_succ]
  go_wp2_with fail
  clear heq c35 c36 d35 d36 HC0 HD0 HSD HSD2 HZ
  go_loopw [37] (fun i wr => ∃ k : Nat, k ≤ n ∧ i = .int .i64 k ∧ (∀ j, j < k → a.preds.getD j [] = b.preds.getD j []) ∧ Below w2.heap.size w2 wr) (fun i _ => n - (intOf i).toNat)
  case atStart => exact ⟨0, Nat.zero_le _, rfl, fun j hj => by omega, Below.refl _ _⟩
  case round =>
    obtain ⟨k, hk, rfl, hj, hb⟩ := hrel
    have HJ := Lib.hid hj
    have HBW := Lib.hid hb
    have HXA := Lib.hid (HX1.out.below hb)
    have HXB := Lib.hid (HX2.out.below hb)
    have HPA2 := Lib.hid (HPA.out.below hb)
    have HPB2 := Lib.hid (HPB.out.below hb)
    clear hj hb c37 d37 HX1 HX2 HPA HPB
    obtain ⟨_, _, _, c37⟩ := op_cells HA.out.ref.1 HXA.out
    obtain ⟨_, _, _, d37⟩ := op_cells HBB.out.ref.1 HXB.out
    rw [HN.out] at c37
    rw [HM.out] at d37
    by_cases hkn : k < n
    · obtain ⟨ba, oa, rfl, hba⟩ := HPA2.out.some (by rw [HN.out]; omega)
      obtain ⟨bb, ob, rfl, hbb⟩ := HPB2.out.some (by rw [HM.out]; omega)
      have g1 := HPA2.out.get (i := k) (by rw [HN.out]; omega)
      have g2 := HPB2.out.get (i := k) (by rw [HM.out]; omega)
      have i1 := Ids.getD HA.out.preds (i := k) (by rw [HN.out]; omega)
      have i2 := Ids.getD HBB.out.preds (i := k) (by rw [HM.out]; omega)
      obtain ⟨x, hx⟩ : ∃ x, a.preds.getD k [] = x := ⟨_, rfl⟩
      obtain ⟨y, hy⟩ : ∃ y, b.preds.getD k [] = y := ⟨_, rfl⟩
      rw [hx] at g1 i1
      rw [hy] at g2 i2
      have HXE := Shut.mk hx
      have HYE := Shut.mk hy
      have HR1 := Lib.hid (fun (w' : World) (q : Below wr.heap.size wr w') => show w'.rangeAt ba (oa + k * 32) (nums .u8 x) from rangeAt_belowI g1 q hba)
      have HR2 := Lib.hid (fun (w' : World) (q : Below wr.heap.size wr w') => show w'.rangeAt bb (ob + k * 32) (nums .u8 y) from rangeAt_belowI g2 q hbb)
      have HS1 := Lib.hid (show (Tryd.prog.info? 25).map (·.size) = some x.length by rw [i1.1]; exact Tryd.sizeI)
      have HS2 := Lib.hid (show (Tryd.prog.info? 25).map (·.size) = some y.length by rw [i2.1]; exact Tryd.sizeI)
      have hxl := HXA.out.lt
      have hyl := HXB.out.lt
      have HC37 := Lib.hid (fun (w' : World) (q : Below wr.heap.size wr w') => show w'.cell? ⟨w.heap.size, 37, none⟩ = some (.slice (some ⟨ba, oa, none⟩) n pc) from (q.cell (p := ⟨w.heap.size, 37, none⟩) hxl).trans c37)
      have HD37 := Lib.hid (fun (w' : World) (q : Below wr.heap.size wr w') => show w'.cell? ⟨w.heap.size + 1, 37, none⟩ = some (.slice (some ⟨bb, ob, none⟩) n pd) from (q.cell (p := ⟨w.heap.size + 1, 37, none⟩) hyl).trans d37)
      have heq := fun w' => equal_idI x y i1.1 i2.1 i1.2 i2.2 w'
      obtain ⟨z, hz⟩ : ∃ z, (x == y) = z := ⟨_, rfl⟩
      rw [hz] at heq
      have HZ := Shut.mk hz
      clear hx hy g1 g2 i1 i2 hxl hyl hz hba hbb c37 d37
      cases z with
      | true =>
        have hxy : x = y := by have := HZ.out; simpa using this
        have HXY := Shut.mk hxy
        clear hxy
        go_upto_region 6 with (fail)
        refine wp_region_class (fun w' => Below wr.heap.size wr w') (by kernel_rfl) (by kernel_rfl) (Below.refl _ _).drew ?_
        repeat (first
          | go_big_quiet_skip
          | (go_big_quiet_want; refine quiet_load_cell 28 _ rfl ⟨w.heap.size, 37, none⟩ _ rfl HC37.out Tryd.isAgg28 ?_; go_big_quiet_on; simp only [Act.put, List.setIfInBounds_toArray, List.set_cons_zero, List.set_cons_succ])
          | (go_big_quiet_want; refine quiet_load_cell 28 _ rfl ⟨w.heap.size + 1, 37, none⟩ _ rfl HD37.out Tryd.isAgg28 ?_; go_big_quiet_on; simp only [Act.put, List.setIfInBounds_toArray, List.set_cons_zero, List.set_cons_succ])
          | (go_big_quiet_want; refine quiet_load_id 25 _ rfl ba (oa + k * 32) x _ rfl HR1.out Tryd.underlying25 rfl HS1.out ?_; go_big_quiet_on; simp only [Act.put, List.setIfInBounds_toArray, List.set_cons_zero, List.set_cons_succ])
          | (go_big_quiet_want; refine quiet_load_id 25 _ rfl bb (ob + k * 32) y _ rfl HR2.out Tryd.underlying25 rfl HS2.out ?_; go_big_quiet_on; simp only [Act.put, List.setIfInBounds_toArray, List.set_cons_zero, List.set_cons_succ])
          | go_big_quiet_step ((intro hs'; rfl)))
        refine wpQuiet_nil ?_
        intro w3 hb2
        go_wp2_with fail
        refine ⟨⟨k + 1, by omega, by go_num, fun q hq => ?_, HBW.out.trans (hb2.mono HBW.out.size)⟩, by simp [intOf]; omega⟩
        by_cases hqj : q = k
        · subst hqj
          rw [HXE.out, HYE.out, HXY.out]
        · exact HJ.out q (by omega)
      | false =>
        have hxy : x ≠ y := by have := HZ.out; simpa using this
        have HR := Shut.mk (show decide (a = b) = false from decide_eq_false (fun h => hxy (by rw [← HXE.out, ← HYE.out, h])))
        clear hxy
        go_upto_region 6 with (fail)
        refine wp_region_class (fun w' => Below wr.heap.size wr w') (by kernel_rfl) (by kernel_rfl) (Below.refl _ _).drew ?_
        repeat (first
          | go_big_quiet_skip
          | (go_big_quiet_want; refine quiet_load_cell 28 _ rfl ⟨w.heap.size, 37, none⟩ _ rfl HC37.out Tryd.isAgg28 ?_; go_big_quiet_on; simp only [Act.put, List.setIfInBounds_toArray, List.set_cons_zero, List.set_cons_succ])
          | (go_big_quiet_want; refine quiet_load_cell 28 _ rfl ⟨w.heap.size + 1, 37, none⟩ _ rfl HD37.out Tryd.isAgg28 ?_; go_big_quiet_on; simp only [Act.put, List.setIfInBounds_toArray, List.set_cons_zero, List.set_cons_succ])
          | (go_big_quiet_want; refine quiet_load_id 25 _ rfl ba (oa + k * 32) x _ rfl HR1.out Tryd.underlying25 rfl HS1.out ?_; go_big_quiet_on; simp only [Act.put, List.setIfInBounds_toArray, List.set_cons_zero, List.set_cons_succ])
          | (go_big_quiet_want; refine quiet_load_id 25 _ rfl bb (ob + k * 32) y _ rfl HR2.out Tryd.underlying25 rfl HS2.out ?_; go_big_quiet_on; simp only [Act.put, List.setIfInBounds_toArray, List.set_cons_zero, List.set_cons_succ])
          | go_big_quiet_step ((intro hs'; rfl)))
        refine wpQuiet_nil ?_
        intro w3 hb2
        go_wp2_with fail
        go_ret
        exact ⟨by rw [HR.out]; rfl, HB.out.trans ((HBW.out.trans (hb2.mono HBW.out.size)).mono HB.out.size)⟩
    · obtain rfl : k = n := by omega
      have HR := Shut.mk (show decide (a = b) = true from decide_eq_true (HEQ3.out.2 (getD_all HN.out HM.out HJ.out)))
      clear c37 d37
      go_wp2_with fail
      go_ret
      exact ⟨by rw [HR.out]; rfl, HB.out.trans (HBW.out.mono HB.out.size)⟩
end Go.Proofs.YthgfpojfnhkckaaDoor
