/-
  Joined: The document's Same.; Rows of blocks of K cells (arrays, structs), one behind the other: a block read, laid over, pushed; copy; a call of a function value.; Rows of operations; the document's SameAll.; What a law's arguments are: slices of texts, opened.; Drafts, operations, rows of operations that came in.; Makes (layer 10) that came in: how operations are to be made.; Each depth is right, whatever was taken; an index out of any number.; Rows of operations whose names lie off certain blocks (X: what may yet turn): read, pushed, appended.
-/
import Derived.ChangeOld
import Derived.ChangeSlices
import Derived.Deep.MidRow
import Derived.Deep.Slices
import Derived.Great.BuildSlice
import Derived.Laws.IdiomCopy
import Derived.OpenShut
import Derived.ProofKit
import Derived.ShutString
import Derived.SizedLaws
import Derived.SliceStrings
import Derived.Test.YtandadfphlandaaGreatDoorRows
import Derived.Test.YtandadfphlandaaGreatDoorJ01
import Derived.Test.YtandadfphlandaaGreatDoorJ03
import Derived.Test.YtandadfphlandaaGreatDoorJ04
namespace Go.Proofs.YtandadfphlandaaGreatDoor
open Go.RowKit Go.BigFrame
theorem getD_all {L M : List (List Nat)} {n : Nat} (hl : L.length = n) (hm : M.length = n) (h : ∀ j, j < n → L.getD j [] = M.getD j []) : L = M := by
  refine List.ext_getElem (by omega) fun j h1 h2 => ?_
  have := h j (by omega)
  rwa [List.getD_eq_getElem?_getD, List.getD_eq_getElem?_getD, List.getElem?_eq_getElem h1, List.getElem?_eq_getElem h2] at this
theorem op_eq_iff (a b : OpN) : a = b ↔ a.d = b.d ∧ a.author = b.author ∧ a.depth = b.depth ∧ a.preds = b.preds := by
  obtain ⟨a1, a2, a3, a4⟩ := a
  obtain ⟨b1, b2, b3, b4⟩ := b
  simp
set_option maxHeartbeats 4000000 in
set_option maxRecDepth 100000 in
theorem ref_same9 (a b : OpN) (pa pb : Option Addr) (pc pd : Nat) (w : World) (ha : a.Ok) (hb : b.Ok) (hpa : IAt pa a.preds w) (hpb : IAt pb b.preds w) (hna : a.preds.length ≤ 140737488351232) (hnb : b.preds.length ≤ 140737488351232) :
    Calls Tryz.prog 17 #[.agg (opV a pa pc), .agg (opV b pb pd)] w fun e w' => e = .returned (.bool (decide (a = b))) ∧ Below w.heap.size w w' := by
  have b1 : Below w.heap.size w (w.alloc (.cells (opV a pa pc) 38)) := (Below.refl _ _).alloc (Nat.le_refl _) _
  have x1 : Cells w.heap.size 38 (opV a pa pc) (w.alloc (.cells (opV a pa pc) 38)) := heap_alloc_new w _
  have s1 : (w.alloc (.cells (opV a pa pc) 38)).heap.size = w.heap.size + 1 := World.size_alloc _ _
  have b2 : Below (w.alloc (.cells (opV a pa pc) 38)).heap.size (w.alloc (.cells (opV a pa pc) 38)) ((w.alloc (.cells (opV a pa pc) 38)).alloc (.cells (opV b pb pd) 38)) := (Below.refl _ _).alloc (Nat.le_refl _) _
  have x2 : Cells (w.alloc (.cells (opV a pa pc) 38)).heap.size 38 (opV b pb pd) ((w.alloc (.cells (opV a pa pc) 38)).alloc (.cells (opV b pb pd) 38)) := heap_alloc_new _ _
  rw [s1] at x2
  have HX1 := Lib.hid (x1.below b2)
  have HX2 := Lib.hid x2
  have HB := Lib.hid (b1.trans (b2.mono b1.size))
  have HA := Lib.hid ha
  have HBB := Lib.hid hb
  have HPA := Lib.hid (hpa.below HB.out)
  have HPB := Lib.hid (hpb.below HB.out)
  have HEQ := Shut.mk (op_eq_iff a b)
  have hsd : (Tryz.prog.info? 27).map (·.size) = some (draftL a.d).length := by rw [draftL_len ha.ref.1]; exact Tryz.sizeD
  have hsd2 : (Tryz.prog.info? 27).map (·.size) = some (draftL b.d).length := by rw [draftL_len hb.ref.1]; exact Tryz.sizeD
  have HSD := Lib.hid hsd
  have HSD2 := Lib.hid hsd2
  clear b1 x1 s1 b2 x2 hpa hpb hsd hsd2
  go_enter Tryz.func17, Tryz.ntmps17
  go_upto_region 1 with (fail)
  obtain ⟨w2, hw2⟩ : ∃ x, x = ((w.alloc (.cells (opV a pa pc) 38)).alloc (.cells (opV b pb pd) 38)) := ⟨_, rfl⟩
  rw [← hw2] at HX1 HX2 HB HPA HPB ⊢
  obtain ⟨c0, c35, c36, c37⟩ := op_cells HA.out.ref.1 HX1.out
  obtain ⟨d0, d35, d36, d37⟩ := op_cells HBB.out.ref.1 HX2.out
  have HC0 := Lib.hid c0
  have HD0 := Lib.hid d0
  obtain ⟨A1, hA1⟩ : ∃ x, a.author = x := ⟨_, rfl⟩
  obtain ⟨A2, hA2⟩ : ∃ x, a.depth = x := ⟨_, rfl⟩
  obtain ⟨n, hn⟩ : ∃ x, a.preds.length = x := ⟨_, rfl⟩
  obtain ⟨B1, hB1⟩ : ∃ x, b.author = x := ⟨_, rfl⟩
  obtain ⟨B2, hB2⟩ : ∃ x, b.depth = x := ⟨_, rfl⟩
  obtain ⟨m, hm⟩ : ∃ x, b.preds.length = x := ⟨_, rfl⟩
  have HN := Shut.mk hn
  have HM := Shut.mk hm
  have HEQ2 := Shut.mk (show a = b ↔ a.d = b.d ∧ A1 = B1 ∧ A2 = B2 ∧ a.preds = b.preds by rw [HEQ.out, hA1, hA2, hB1, hB2])
  rw [hA1] at c35
  rw [hA2] at c36
  rw [hn] at c37 hna
  rw [hB1] at d35
  rw [hB2] at d36
  rw [hm] at d37 hnb
  have heq := fun w' => equal_draft a.d b.d ha.ref hb.ref w'
  obtain ⟨z, hz⟩ : ∃ z, decide (a.d = b.d) = z := ⟨_, rfl⟩
  rw [hz] at heq
  have HZ := Shut.mk hz
  unfold draftV at heq
  clear hw2 c0 d0 hA1 hA2 hB1 hB2 hn hm hz ha hb HEQ
  by_cases hz2 : z = false
  · subst hz2
    have HR := Shut.mk (show decide (a = b) = false from decide_eq_false (fun h => by have h1 := (HEQ2.out.1 h).1; have h2 := HZ.out; rw [decide_eq_true h1] at h2; cases h2))
    refine wp_region_lit ?_
    iterate 3 (first | go_skip | go_guarded | go_step)
    refine wpList_load_mid rfl 27 _ rfl w.heap.size 0 rfl _ _ HC0.out Tryz.underlying27 rfl HSD.out ?_
    simp only [Act.put, List.setIfInBounds_toArray, List.set_cons_zero, List.set_cons_succ]
    iterate 3 (first | go_skip | go_guarded | go_step)
    refine wpList_load_mid rfl 27 _ rfl (w.heap.size + 1) 0 rfl _ _ HD0.out Tryz.underlying27 rfl HSD2.out ?_
    simp only [Act.put, List.setIfInBounds_toArray, List.set_cons_zero, List.set_cons_succ]
    go_wp2_with fail
    go_ret
    exact ⟨by rw [HR.out]; rfl, HB.out⟩
  obtain rfl : z = true := by simpa using hz2
  have hd : a.d = b.d := of_decide_eq_true HZ.out
  have HD := Shut.mk hd
  clear hd hz2
  by_cases h1 : ¬ A1 = B1
  · have h1b : (A1 != B1) = true := by simpa using h1
    have HR := Shut.mk (show decide (a = b) = false from decide_eq_false (fun h => h1 (HEQ2.out.1 h).2.1))
    clear h1
    refine wp_region_lit ?_
    iterate 3 (first | go_skip | go_guarded | go_step)
    refine wpList_load_mid rfl 27 _ rfl w.heap.size 0 rfl _ _ HC0.out Tryz.underlying27 rfl HSD.out ?_
    simp only [Act.put, List.setIfInBounds_toArray, List.set_cons_zero, List.set_cons_succ]
    iterate 3 (first | go_skip | go_guarded | go_step)
    refine wpList_load_mid rfl 27 _ rfl (w.heap.size + 1) 0 rfl _ _ HD0.out Tryz.underlying27 rfl HSD2.out ?_
    simp only [Act.put, List.setIfInBounds_toArray, List.set_cons_zero, List.set_cons_succ]
    go_wp2_with fail
    go_ret
    exact ⟨by rw [HR.out]; rfl, HB.out⟩
  have h1 := Classical.not_not.1 h1
  subst h1
  by_cases h2 : ¬ A2 = B2
  · have h2b : (A2 != B2) = true := by simpa using h2
    have HR := Shut.mk (show decide (a = b) = false from decide_eq_false (fun h => h2 (HEQ2.out.1 h).2.2.1))
    clear h2
    refine wp_region_lit ?_
    iterate 3 (first | go_skip | go_guarded | go_step)
    refine wpList_load_mid rfl 27 _ rfl w.heap.size 0 rfl _ _ HC0.out Tryz.underlying27 rfl HSD.out ?_
    simp only [Act.put, List.setIfInBounds_toArray, List.set_cons_zero, List.set_cons_succ]
    iterate 3 (first | go_skip | go_guarded | go_step)
    refine wpList_load_mid rfl 27 _ rfl (w.heap.size + 1) 0 rfl _ _ HD0.out Tryz.underlying27 rfl HSD2.out ?_
    simp only [Act.put, List.setIfInBounds_toArray, List.set_cons_zero, List.set_cons_succ]
    go_wp2_with fail
    go_ret
    exact ⟨by rw [HR.out]; rfl, HB.out⟩
  have h2 := Classical.not_not.1 h2
  subst h2
  by_cases h3 : ¬ n = m
  · have h3b : ((n : Int) == (m : Int)) = false := by simp; omega
    have HR := Shut.mk (show decide (a = b) = false from decide_eq_false (fun h => h3 (by rw [← HN.out, ← HM.out, (HEQ2.out.1 h).2.2.2])))
    refine wp_region_lit ?_
    iterate 3 (first | go_skip | go_guarded | go_step)
    refine wpList_load_mid rfl 27 _ rfl w.heap.size 0 rfl _ _ HC0.out Tryz.underlying27 rfl HSD.out ?_
    simp only [Act.put, List.setIfInBounds_toArray, List.set_cons_zero, List.set_cons_succ]
    iterate 3 (first | go_skip | go_guarded | go_step)
    refine wpList_load_mid rfl 27 _ rfl (w.heap.size + 1) 0 rfl _ _ HD0.out Tryz.underlying27 rfl HSD2.out ?_
    simp only [Act.put, List.setIfInBounds_toArray, List.set_cons_zero, List.set_cons_succ]
    go_wp2_with fail
    go_ret
    exact ⟨by rw [HR.out]; rfl, HB.out⟩
  have h3 := Classical.not_not.1 h3
  subst h3
  have HEQ3 := Shut.mk (show a = b ↔ a.preds = b.preds from ⟨fun h => (HEQ2.out.1 h).2.2.2, fun h => HEQ2.out.2 ⟨HD.out, rfl, rfl, h⟩⟩)
  clear HEQ2
  refine wp_region_lit ?_
  iterate 3 (first | go_skip | go_guarded | go_step)
  refine wpList_load_mid rfl 27 _ rfl w.heap.size 0 rfl _ _ HC0.out Tryz.underlying27 rfl HSD.out ?_
  simp only [Act.put, List.setIfInBounds_toArray, List.set_cons_zero, List.set_cons_succ]
  iterate 3 (first | go_skip | go_guarded | go_step)
  refine wpList_load_mid rfl 27 _ rfl (w.heap.size + 1) 0 rfl _ _ HD0.out Tryz.underlying27 rfl HSD2.out ?_
  simp only [Act.put, List.setIfInBounds_toArray, List.set_cons_zero, List.set_cons_succ]
  go_wp2_with fail
  clear heq c35 c36 d35 d36 HC0 HD0 HSD HSD2 HZ
  go_loopw [37] (fun i wr => ∃ k : Nat, k ≤ n ∧ i = .int .i64 k ∧ (∀ j, j < k → a.preds.getD j [] = b.preds.getD j []) ∧ Below w2.heap.size w2 wr) (fun i _ => n - (intOf i).toNat)
  case atStart => exact ⟨0, Nat.zero_le _, rfl, fun j hj => by omega, Below.refl _ _⟩
  case round =>
    obtain ⟨k, hk, rfl, hj, hb⟩ := hrel
    have HJ := Lib.hid hj
    have HBW := Lib.hid hb
    have HXA := Lib.hid (HX1.out.below hb)
    have HXB := Lib.hid (HX2.out.below hb)
    have HPA2 := Lib.hid (HPA.out.below hb)
    have HPB2 := Lib.hid (HPB.out.below hb)
    clear hj hb c37 d37 HX1 HX2 HPA HPB
    obtain ⟨_, _, _, c37⟩ := op_cells HA.out.ref.1 HXA.out
    obtain ⟨_, _, _, d37⟩ := op_cells HBB.out.ref.1 HXB.out
    rw [HN.out] at c37
    rw [HM.out] at d37
    by_cases hkn : k < n
    · obtain ⟨ba, oa, rfl, hba⟩ := HPA2.out.some (by rw [HN.out]; omega)
      obtain ⟨bb, ob, rfl, hbb⟩ := HPB2.out.some (by rw [HM.out]; omega)
      have g1 := HPA2.out.get (i := k) (by rw [HN.out]; omega)
      have g2 := HPB2.out.get (i := k) (by rw [HM.out]; omega)
      have i1 := Ids.getD HA.out.preds (i := k) (by rw [HN.out]; omega)
      have i2 := Ids.getD HBB.out.preds (i := k) (by rw [HM.out]; omega)
      obtain ⟨x, hx⟩ : ∃ x, a.preds.getD k [] = x := ⟨_, rfl⟩
      obtain ⟨y, hy⟩ : ∃ y, b.preds.getD k [] = y := ⟨_, rfl⟩
      rw [hx] at g1 i1
      rw [hy] at g2 i2
      have HXE := Shut.mk hx
      have HYE := Shut.mk hy
      have HR1 := Lib.hid (fun (w' : World) (q : Below wr.heap.size wr w') => show w'.rangeAt ba (oa + k * 32) (nums .u8 x) from rangeAt_belowI g1 q hba)
      have HR2 := Lib.hid (fun (w' : World) (q : Below wr.heap.size wr w') => show w'.rangeAt bb (ob + k * 32) (nums .u8 y) from rangeAt_belowI g2 q hbb)
      have HS1 := Lib.hid (show (Tryz.prog.info? 25).map (·.size) = some x.length by rw [i1.1]; exact Tryz.sizeI)
      have HS2 := Lib.hid (show (Tryz.prog.info? 25).map (·.size) = some y.length by rw [i2.1]; exact Tryz.sizeI)
      have hxl := HXA.out.lt
      have hyl := HXB.out.lt
      have HC37 := Lib.hid (fun (w' : World) (q : Below wr.heap.size wr w') => show w'.cell? ⟨w.heap.size, 37, none⟩ = some (.slice (some ⟨ba, oa, none⟩) n pc) from (q.cell (p := ⟨w.heap.size, 37, none⟩) hxl).trans c37)
      have HD37 := Lib.hid (fun (w' : World) (q : Below wr.heap.size wr w') => show w'.cell? ⟨w.heap.size + 1, 37, none⟩ = some (.slice (some ⟨bb, ob, none⟩) n pd) from (q.cell (p := ⟨w.heap.size + 1, 37, none⟩) hyl).trans d37)
      have heq := fun w' => equal_idI x y i1.1 i2.1 i1.2 i2.2 w'
      obtain ⟨z, hz⟩ : ∃ z, (x == y) = z := ⟨_, rfl⟩
      rw [hz] at heq
      have HZ := Shut.mk hz
      clear hx hy g1 g2 i1 i2 hxl hyl hz hba hbb c37 d37
      cases z with
      | true =>
        have hxy : x = y := by have := HZ.out; simpa using this
        have HXY := Shut.mk hxy
        clear hxy
        go_upto_region 6 with (fail)
        refine wp_region_class (fun w' => Below wr.heap.size wr w') (by kernel_rfl) (by kernel_rfl) (Below.refl _ _).drew ?_
        repeat (first
          | go_big_quiet_skip
          | (go_big_quiet_want; refine quiet_load_cell 34 _ rfl ⟨w.heap.size, 37, none⟩ _ rfl HC37.out Tryz.isAgg34 ?_; go_big_quiet_on; simp only [Act.put, List.setIfInBounds_toArray, List.set_cons_zero, List.set_cons_succ])
          | (go_big_quiet_want; refine quiet_load_cell 34 _ rfl ⟨w.heap.size + 1, 37, none⟩ _ rfl HD37.out Tryz.isAgg34 ?_; go_big_quiet_on; simp only [Act.put, List.setIfInBounds_toArray, List.set_cons_zero, List.set_cons_succ])
          | (go_big_quiet_want; refine quiet_load_id 25 _ rfl ba (oa + k * 32) x _ rfl HR1.out Tryz.underlying25 rfl HS1.out ?_; go_big_quiet_on; simp only [Act.put, List.setIfInBounds_toArray, List.set_cons_zero, List.set_cons_succ])
          | (go_big_quiet_want; refine quiet_load_id 25 _ rfl bb (ob + k * 32) y _ rfl HR2.out Tryz.underlying25 rfl HS2.out ?_; go_big_quiet_on; simp only [Act.put, List.setIfInBounds_toArray, List.set_cons_zero, List.set_cons_succ])
          | go_big_quiet_step ((intro hs'; rfl)))
        refine wpQuiet_nil ?_
        intro w3 hb2
        go_wp2_with fail
        refine ⟨⟨k + 1, by omega, by go_num, fun q hq => ?_, HBW.out.trans (hb2.mono HBW.out.size)⟩, by simp [intOf]; omega⟩
        by_cases hqj : q = k
        · subst hqj
          rw [HXE.out, HYE.out, HXY.out]
        · exact HJ.out q (by omega)
      | false =>
        have hxy : x ≠ y := by have := HZ.out; simpa using this
        have HR := Shut.mk (show decide (a = b) = false from decide_eq_false (fun h => hxy (by rw [← HXE.out, ← HYE.out, h])))
        clear hxy
        go_upto_region 6 with (fail)
        refine wp_region_class (fun w' => Below wr.heap.size wr w') (by kernel_rfl) (by kernel_rfl) (Below.refl _ _).drew ?_
        repeat (first
          | go_big_quiet_skip
          | (go_big_quiet_want; refine quiet_load_cell 34 _ rfl ⟨w.heap.size, 37, none⟩ _ rfl HC37.out Tryz.isAgg34 ?_; go_big_quiet_on; simp only [Act.put, List.setIfInBounds_toArray, List.set_cons_zero, List.set_cons_succ])
          | (go_big_quiet_want; refine quiet_load_cell 34 _ rfl ⟨w.heap.size + 1, 37, none⟩ _ rfl HD37.out Tryz.isAgg34 ?_; go_big_quiet_on; simp only [Act.put, List.setIfInBounds_toArray, List.set_cons_zero, List.set_cons_succ])
          | (go_big_quiet_want; refine quiet_load_id 25 _ rfl ba (oa + k * 32) x _ rfl HR1.out Tryz.underlying25 rfl HS1.out ?_; go_big_quiet_on; simp only [Act.put, List.setIfInBounds_toArray, List.set_cons_zero, List.set_cons_succ])
          | (go_big_quiet_want; refine quiet_load_id 25 _ rfl bb (ob + k * 32) y _ rfl HR2.out Tryz.underlying25 rfl HS2.out ?_; go_big_quiet_on; simp only [Act.put, List.setIfInBounds_toArray, List.set_cons_zero, List.set_cons_succ])
          | go_big_quiet_step ((intro hs'; rfl)))
        refine wpQuiet_nil ?_
        intro w3 hb2
        go_wp2_with fail
        go_ret
        exact ⟨by rw [HR.out]; rfl, HB.out.trans ((HBW.out.trans (hb2.mono HBW.out.size)).mono HB.out.size)⟩
    · obtain rfl : k = n := by omega
      have HR := Shut.mk (show decide (a = b) = true from decide_eq_true (HEQ3.out.2 (getD_all HN.out HM.out HJ.out)))
      clear c37 d37
      go_wp2_with fail
      go_ret
      exact ⟨by rw [HR.out]; rfl, HB.out.trans (HBW.out.mono HB.out.size)⟩
end Go.Proofs.YtandadfphlandaaGreatDoor
namespace Go.Proofs.YtandadfphlandaaGreatDoor
open Go.RowKit
section
variable {α : Type}
def Wide (K : Nat) (L : List (List α)) : Prop := ∀ x ∈ L, x.length = K
theorem Wide.nil (K : Nat) : Wide K ([] : List (List α)) := fun x hx => by cases hx
theorem Wide.getD {K : Nat} {L : List (List α)} (h : Wide K L) {i : Nat} (hi : i < L.length) : (L.getD i []).length = K := by
  rw [List.getD_eq_getElem?_getD, List.getElem?_eq_getElem hi]
  exact h _ (List.getElem_mem hi)
theorem flat_len {K : Nat} {L : List (List α)} (h : Wide K L) : L.flatten.length = L.length * K := by
  induction L with
  | nil => simp
  | cons x L ih =>
    have h1 := h x (by simp)
    have h2 := ih fun y hy => h y (by simp [hy])
    rw [List.flatten_cons, List.length_append, h1, h2, List.length_cons, Nat.succ_mul]
    omega
theorem flat_get {K : Nat} {L : List (List α)} (h : Wide K L) : ∀ {i j : Nat}, i < L.length → j < K → L.flatten[K * i + j]? = (L.getD i [])[j]? := by
  induction L with
  | nil => intro i j hi _; cases hi
  | cons x L ih =>
    intro i j hi hj
    have h1 := h x (by simp)
    rw [List.flatten_cons]
    cases i with
    | zero => rw [Nat.mul_zero, Nat.zero_add, List.getElem?_append_left (by omega)]; rfl
    | succ i =>
      have e : K * (i + 1) + j = x.length + (K * i + j) := by rw [h1, Nat.mul_succ]; omega
      rw [e, List.getElem?_append_right (by omega), Nat.add_sub_cancel_left]
      exact ih (fun y hy => h y (by simp [hy])) (by simpa using hi) hj
end
theorem block_of {K q n : Nat} (hK : 0 < K) : ∃ i m, q = K * i + m ∧ m < K ∧ (q < n * K → i < n) := by
  refine ⟨q / K, q % K, (Nat.div_add_mod q K).symm, Nat.mod_lt _ hK, fun h => ?_⟩
  exact (Nat.div_lt_iff_lt_mul hK).2 h
section
variable {P : Program} {o : Oper} {a : Act} {w : World} {K : Act → World → Prop} {Q : Exit → Act → World → Prop}
theorem run_alloc_of (ty : TypeId) (z : List Value) (hz : (P.info? ty).bind (·.zero) = some (.agg z.toArray)) (w : World) : (Instr.alloc ty true (.tuple #[])).run P w = .ok (.pointer (some ⟨w.heap.size, 0, none⟩)) (w.alloc (.cells z.toArray ty)) := by
  obtain ⟨i, hi, hzz⟩ := Option.bind_eq_some_iff.1 hz
  simp [Instr.alloc, zeroValue, typeInfo, hi, hzz, go_sem]
theorem wpList_alloc_of {ops : Array Oper} {rest : List Oper} (hgd : o.guard = none) (ty : TypeId) (ho : o.op = .alloc ty) (z : List Value) (hz : (P.info? ty).bind (·.zero) = some (.agg z.toArray))
    (h : wpList P ops Q rest (a.put o.dst (.pointer (some ⟨w.heap.size, 0, none⟩))) (w.alloc (.cells z.toArray ty))) : wpList P ops Q (o :: rest) a w :=
  wpList_plain hgd fun _ hK => (op_alloc ty ho z.toArray (run_alloc_of ty z hz) (hK _ _ h)).out
theorem run_build_wide (t e : TypeId) (us : List Value) (z : Value) (bytes size : Nat) (ht : P.underlying t = some (.slice e)) (hinfo : (P.info? e).map (fun i => (i.zero, i.size, i.bytes)) = some (some z, size, bytes)) (hs : us.length = size) (h0 : 0 < size) (hsm : size ≤ 100000) (w : World) :
    (Instr.buildSlice t 1 #[(0, .agg us.toArray)]).run P w = .ok (.slice (some ⟨w.heap.size, 0, none⟩) 1 1) (w.alloc (.cells us.toArray e)) := by
  obtain ⟨i, hi, hz0, hz1, _⟩ := info_parts hinfo
  refine run_buildSlice (P := P) w t e 1 #[(0, .agg us.toArray)] us.toArray i z ht hi hz0 (by rw [hz1]; omega) (by rw [hz1]; omega) ?_
  rw [hz1]
  have h1 := Great.fill_whole (s := size) h0 [Value.agg us.toArray] ((Array.range (1 * size)).map (z.cells[· % z.cells.size]!))
    (fun v hv => by obtain rfl := List.mem_singleton.1 hv; show us.toArray.size = size; rw [List.size_toArray, hs]) (by simp)
  have e1 : (#[(0, Value.agg us.toArray)] : Array (Nat × Value)).toList = ([Value.agg us.toArray].zipIdx 0).map fun x => (x.2, x.1) := by simp [List.zipIdx_cons]
  have e2 : ([Value.agg us.toArray].flatMap fun v => v.cells.toList).toArray = us.toArray := by
    rw [List.flatMap_cons, List.flatMap_nil, List.append_nil]
    rfl
  rw [e1, h1, e2]
theorem op_build_wide (t e : TypeId) (x : Operand) (ho : o.op = .buildSlice t 1 #[(0, x)]) (us : List Value) (hx : a.eval x = .agg us.toArray)
    (hr : ∀ w, (Instr.buildSlice t 1 #[(0, .agg us.toArray)]).run P w = .ok (.slice (some ⟨w.heap.size, 0, none⟩) 1 1) (w.alloc (.cells us.toArray e)))
    (h : K (a.put o.dst (.slice (some ⟨w.heap.size, 0, none⟩) 1 1)) (w.alloc (.cells us.toArray e))) : OpWp P o a w K Q := by
  refine ⟨?_⟩
  have e1 : ((#[(0, x)] : Array (Nat × Operand)).map fun (i, x) => (i, a.eval x)) = #[(0, .agg us.toArray)] := by simp [hx]
  unfold Oper.wp execOp
  simp only [ho, e1, Sem.run_bind, Sem.run_pure, hr, Result.andThen_ok]
  exact h
end
end Go.Proofs.YtandadfphlandaaGreatDoor
namespace Go.Proofs.YtandadfphlandaaGreatDoor
open Go.RowKit Go.BigFrame
theorem IAt.grown {ao : Option Addr} {L : List (List Nat)} {w w' : World} {row : Option Nat} (h : IAt ao L w) (k : w.grownBy w' row) (hr : ∀ a, ao = Option.some a → L ≠ [] → row ≠ Option.some a.block) : IAt ao L w' := by
  rcases h with h | ⟨b, o, rfl, h2, h3⟩
  · exact .inl h
  · by_cases h0 : L = []
    · exact .inl h0
    · exact .inr ⟨b, o, rfl, Nat.lt_of_lt_of_le h2 k.size, fun i hi j v hv => (World.cell?_of_block (a := ⟨b, o + 32 * i + j, none⟩) (k.block b h2 (fun e => hr _ rfl h0 e.symm))).trans (h3 i hi j v hv)⟩
theorem IAt.lt {ao : Option Addr} {L : List (List Nat)} {w : World} (h : IAt ao L w) (h0 : L ≠ []) {a : Addr} (ha : ao = Option.some a) : a.block < w.heap.size := by
  rcases h with h | ⟨b, o, h1, h2, _⟩
  · exact absurd h h0
  · rw [h1] at ha
    cases ha
    exact h2
end Go.Proofs.YtandadfphlandaaGreatDoor
namespace Go.Proofs.YtandadfphlandaaGreatDoor
open Go.ChangeShapes Go.WideShapes Go.ChangeAt Go.RowKit
theorem law_own : ownKnob Tryz.prog.godebug = none := by kernel_rfl
theorem law_laidOut : laidOutB Tryz.prog = true := by kernel_rfl
theorem lt_of_cell {w : World} {a : Addr} {v : Value} (h : w.cell? a = some v) : a.block < w.heap.size := by
  rcases Nat.lt_or_ge a.block w.heap.size with h' | h'
  · exact h'
  · simp [World.cell?, Array.getElem?_eq_none h'] at h
end Go.Proofs.YtandadfphlandaaGreatDoor
namespace Go.Proofs.YtandadfphlandaaGreatDoor
open Go.RowKit Go.ChangeShapes Go.WideShapes Go.Deep
structure DraftN.In (d : DraftN) : Prop where
  ref : IdOk d.ref
  low : -9223372036854775808 ≤ d.kind
  high : d.kind ≤ 9223372036854775807
  key : d.key.length ≤ 140737488351232
  val : d.val.length ≤ 140737488351232
structure OpN.In (o : OpN) : Prop where
  d : o.d.In
  alow : -9223372036854775808 ≤ o.author
  ahigh : o.author ≤ 9223372036854775807
  dlow : -9223372036854775808 ≤ o.depth
  dhigh : o.depth ≤ 9223372036854775807
  preds : ∀ p ∈ o.preds, IdOk p
  many : o.preds.length ≤ 4398046510976
theorem weights_one {H : Type} {P : Program} {t : TypeId} (bs : List UInt8) : DataW.weights (H := H) P t (.lit (.string bs)) = [bs.length] := by simp [DataW.weights]
set_option maxRecDepth 100000 in
theorem open_draft_cells {H : Type} {enc : TypeId × Value → H} {W : World} {n : Nat} {cs : List Value} {x : DataW H × List MemPlace}
    (h : DataW.trod enc Tryz.prog W 0 (fun _ => true) true n 27 cs = some x) (hwt : ∀ n ∈ DataW.weights Tryz.prog 27 x.1, n ≤ 140737488351232) :
    ∃ d : DraftN, cs = draftL d ∧ d.In := by
  obtain ⟨xs, m, _, hx, hcl, hxl, hf⟩ := DataW.trod_struct Tryz.underlying27 h
  have hci : Tryz.prog.cellsOf 3 = 1 := by kernel_rfl
  have hcs : Tryz.prog.cellsOf 9 = 1 := by kernel_rfl
  have hcr : Tryz.prog.cellsOf 25 = 32 := by kernel_rfl
  have hcd : Tryz.prog.cellsOf 27 = 35 := by kernel_rfl
  have hcu : Tryz.prog.cellsOf 5 = 1 := by kernel_rfl
  rw [hcd] at hcl
  match cs, hcl with
  | v0 :: v1 :: v2 :: r, hcl =>
  match xs, hxl with
  | [x0, x1, x2, x3], _ =>
  have t0 : DataW.trod enc Tryz.prog W 0 (fun _ => true) true m 3 ((v0 :: v1 :: v2 :: r).take (Tryz.prog.cellsOf 3)) = some x0 := hf 0 _ rfl
  have t1 : DataW.trod enc Tryz.prog W 0 (fun _ => true) true m 9 (((v0 :: v1 :: v2 :: r).drop 1).take (Tryz.prog.cellsOf 9)) = some x1 := hf 1 _ rfl
  have t2 : DataW.trod enc Tryz.prog W 0 (fun _ => true) true m 9 (((v0 :: v1 :: v2 :: r).drop 2).take (Tryz.prog.cellsOf 9)) = some x2 := hf 2 _ rfl
  have t3 : DataW.trod enc Tryz.prog W 0 (fun _ => true) true m 25 (((v0 :: v1 :: v2 :: r).drop 3).take (Tryz.prog.cellsOf 25)) = some x3 := hf 3 _ rfl
  rw [hci] at t0
  rw [hcs] at t1 t2
  rw [hcr] at t3
  simp only [List.drop_succ_cons, List.drop_zero, List.take_succ_cons, List.take_zero] at t0 t1 t2
  rw [show (v0 :: v1 :: v2 :: r).drop 3 = r from rfl, List.take_of_length_le (by simp only [List.length_cons] at hcl; omega)] at t3
  obtain ⟨k, e0, _, w0⟩ := DataW.trod_int Tryz.underlying3 t0
  obtain ⟨s1, e1, d1, _⟩ := DataW.trod_string Tryz.underlying9 t1
  obtain ⟨s2, e2, d2, _⟩ := DataW.trod_string Tryz.underlying9 t2
  obtain ⟨l, e3, h3, h4⟩ := trod_bytesI Tryz.underlying25 Tryz.underlying5 hcu hcr t3
  have hx1 : x.1 = .agg [x0.1, x1.1, x2.1, x3.1] := congrArg Prod.fst hx
  rw [hx1] at hwt
  simp only [DataW.weights, Tryz.underlying27] at hwt
  have q1 : s1.data.toList.length ≤ 140737488351232 := hwt _ (by
    simp only [List.map_cons, List.map_nil, DataW.weightsEach, List.mem_append, d1, weights_one, List.mem_singleton]
    exact .inr (.inl trivial))
  have q2 : s2.data.toList.length ≤ 140737488351232 := hwt _ (by
    simp only [List.map_cons, List.map_nil, DataW.weightsEach, List.mem_append, d2, weights_one, List.mem_singleton]
    exact .inr (.inr (.inl trivial)))
  simp only [List.cons.injEq, and_true] at e0 e1 e2
  simp only [Lit.wf, Bool.and_eq_true, decide_eq_true_eq] at w0
  refine ⟨⟨k, s1.data.toList, s2.data.toList, l⟩, ?_, ⟨h3, h4⟩, w0.1, w0.2, q1, q2⟩
  rw [e0, e1, e2, e3]
  rfl
set_option maxRecDepth 100000 in
theorem open_op_cells {H : Type} {enc : TypeId × Value → H} {W : World} {n : Nat} {cs : List Value} {x : DataW H × List MemPlace}
    (h : DataW.trod enc Tryz.prog W 0 (fun _ => true) true n 38 cs = some x) (hwt : ∀ n ∈ DataW.weights Tryz.prog 38 x.1, n ≤ 140737488351232) :
    ∃ (o : OpN) (pa : Option Addr) (pc : Nat), cs = opL o pa pc ∧ o.In ∧ IAt pa o.preds W := by
  obtain ⟨xs, m, _, hx, hcl, hxl, hf⟩ := DataW.trod_struct Tryz.underlying38 h
  have hci : Tryz.prog.cellsOf 3 = 1 := by kernel_rfl
  have hcd : Tryz.prog.cellsOf 27 = 35 := by kernel_rfl
  have hco : Tryz.prog.cellsOf 38 = 38 := by kernel_rfl
  have hcp : Tryz.prog.cellsOf 34 = 1 := by kernel_rfl
  rw [hco] at hcl
  match xs, hxl with
  | [x0, x1, x2, x3], _ =>
  have t0 : DataW.trod enc Tryz.prog W 0 (fun _ => true) true m 27 ((cs.drop 0).take (Tryz.prog.cellsOf 27)) = some x0 := hf 0 _ rfl
  have t1 : DataW.trod enc Tryz.prog W 0 (fun _ => true) true m 3 ((cs.drop 35).take (Tryz.prog.cellsOf 3)) = some x1 := hf 1 _ rfl
  have t2 : DataW.trod enc Tryz.prog W 0 (fun _ => true) true m 3 ((cs.drop 36).take (Tryz.prog.cellsOf 3)) = some x2 := hf 2 _ rfl
  have t3 : DataW.trod enc Tryz.prog W 0 (fun _ => true) true m 34 ((cs.drop 37).take (Tryz.prog.cellsOf 34)) = some x3 := hf 3 _ rfl
  rw [hcd, List.drop_zero] at t0
  rw [hci] at t1 t2
  rw [hcp] at t3
  have hx1 : x.1 = .agg [x0.1, x1.1, x2.1, x3.1] := congrArg Prod.fst hx
  rw [hx1] at hwt
  simp only [DataW.weights, Tryz.underlying38] at hwt
  obtain ⟨d, e0, hd⟩ := open_draft_cells t0 (fun q hq => hwt q (by
    simp only [List.map_cons, List.map_nil, DataW.weightsEach, List.mem_append]
    exact .inl hq))
  obtain ⟨a, e1, _, w1⟩ := DataW.trod_int Tryz.underlying3 t1
  obtain ⟨b, e2, _, w2⟩ := DataW.trod_int Tryz.underlying3 t2
  obtain ⟨v3, e3⟩ : ∃ v, (cs.drop 37).take 1 = [v] := by
    have hl : ((cs.drop 37).take 1).length = 1 := by rw [List.length_take, List.length_drop]; omega
    match (cs.drop 37).take 1, hl with
    | [v], _ => exact ⟨v, rfl⟩
  rw [e3] at t3
  obtain ⟨pa, L, pc, e4, h1, h2, h3, _⟩ := open_ids_row Tryz.underlying34 Tryz.underlying25 Tryz.underlying5 (by kernel_rfl) (by kernel_rfl) (by kernel_rfl) t3 (fun q hq => hwt q (by
    simp only [List.map_cons, List.map_nil, DataW.weightsEach, List.mem_append]
    exact .inr (.inr (.inr (.inl hq)))))
  simp only [Lit.wf, Bool.and_eq_true, decide_eq_true_eq] at w1 w2
  refine ⟨⟨d, a, b, L⟩, pa, pc, ?_, ⟨hd, w1.1, w1.2, w2.1, w2.2, h2, h3⟩, h1⟩
  have hsplit : cs = cs.take 35 ++ ((cs.drop 35).take 1 ++ ((cs.drop 36).take 1 ++ (cs.drop 37).take 1)) := by
    have h36 : cs.drop 36 = (cs.drop 35).drop 1 := by rw [List.drop_drop]
    have h37 : cs.drop 37 = (cs.drop 36).drop 1 := by rw [List.drop_drop]
    have hlast : (cs.drop 37).take 1 = cs.drop 37 := List.take_of_length_le (by rw [List.length_drop]; omega)
    rw [hlast]
    conv => lhs; rw [← List.take_append_drop 35 cs, ← List.take_append_drop 1 (cs.drop 35), ← h36, ← List.take_append_drop 1 (cs.drop 36), ← h37]
  rw [hsplit, e0, e1, e2, e3, e4]
  rfl
set_option maxRecDepth 100000 in
theorem open_draft {H : Type} {enc : TypeId × Value → H} {W : World} {v : Value} {d : DataW H} {p : List MemPlace} {base : Nat} (hv : Value.okWide Tryz.prog W .any base 27 v)
    (h : DataW.Trod enc Tryz.prog W 0 (fun _ => true) true 27 v d p) (hwt : ∀ n ∈ DataW.weights Tryz.prog 27 d, n ≤ 140737488351232) :
    ∃ x : DraftN, v = .agg (draftV x) ∧ x.In := by
  obtain ⟨cs, rfl, _⟩ := okWide_struct Tryz.underlying27 hv
  obtain ⟨fuel, hf⟩ := h
  obtain ⟨x, e, hx⟩ := open_draft_cells hf hwt
  exact ⟨x, congrArg Value.agg (Array.ext' (by rw [draftV, List.toList_toArray]; exact e)), hx⟩
theorem weights_mem_all9 {H : Type} {P : Program} {e : TypeId} : ∀ (l : List (DataW H)) (d : DataW H), d ∈ l → ∀ n ∈ DataW.weights P e d, n ∈ DataW.weightsAll P e l
  | [], _, h, _, _ => by cases h
  | x :: l, d, h, n, hn => by
    simp only [DataW.weightsAll, List.mem_append]
    rcases List.mem_cons.1 h with rfl | h
    · exact .inl hn
    · exact .inr (weights_mem_all9 l d h n hn)
theorem open_name {H : Type} {enc : TypeId × Value → H} {P : Program} {W : World} {v : Value} {d : DataW H} {p : List MemPlace} {base : Nat} {t u : TypeId} (hu : P.underlying t = some (.array 32 u)) (he : P.underlying u = some (.int .u8)) (hone : P.cellsOf u = 1) (hsz : P.cellsOf t = 32)
    (hv : Value.okWide P W .any base t v) (h : DataW.Trod enc P W 0 (fun _ => true) true t v d p) : ∃ l : List Nat, v = .agg (nums .u8 l).toArray ∧ IdOk l := by
  simp only [Value.okWide, hu] at hv
  obtain ⟨cs, rfl, hcs, _⟩ := hv
  obtain ⟨fuel, hf⟩ := h
  obtain ⟨l, e, h1, h2⟩ := trod_bytesI hu he hone hsz hf
  exact ⟨l, congrArg Value.agg (Array.ext' (by rw [List.toList_toArray]; exact e)), h1, h2⟩
end Go.Proofs.YtandadfphlandaaGreatDoor
namespace Go.Proofs.YtandadfphlandaaGreatDoor
open Go.RowKit Go.ChangeShapes Go.WideShapes Go.Deep
structure MakeN where
  kind : Int
  author : Int
  d : DraftN
  pos : Int
  other : Int
  deep : Int
  op : OpN
def makeL (m : MakeN) (pa : Option Addr) (pc : Nat) : List Value := [.int .i64 m.kind, .int .i64 m.author] ++ draftL m.d ++ [.int .i64 m.pos, .int .i64 m.other, .int .i64 m.deep] ++ opL m.op pa pc
def I64 (i : Int) : Prop := -9223372036854775808 ≤ i ∧ i ≤ 9223372036854775807
structure MakeN.In (m : MakeN) : Prop where
  kind : I64 m.kind
  author : I64 m.author
  d : m.d.In
  pos : I64 m.pos
  other : I64 m.other
  deep : I64 m.deep
  op : m.op.In
theorem makeL_len {m : MakeN} (h : m.In) (pa : Option Addr) (pc : Nat) : (makeL m pa pc).length = 78 := by
  simp [makeL, draftL_len h.d.ref.1, opL_len h.op.d.ref.1]
def MksAt (ao : Option Addr) (L : List MakeN) (W : World) : Prop :=
  L = [] ∨ ∃ b o, ao = some ⟨b, o, none⟩ ∧ b < W.heap.size ∧ ∀ (i : Nat) (y : MakeN), L[i]? = some y → ∃ pa pc, W.rangeAt b (o + i * 78) (makeL y pa pc) ∧ IAt pa y.op.preds W
theorem cells_split (cs : List Value) (h : cs.length = 78) : cs = (cs.drop 0).take 1 ++ ((cs.drop 1).take 1 ++ ((cs.drop 2).take 35 ++ ((cs.drop 37).take 1 ++ ((cs.drop 38).take 1 ++ ((cs.drop 39).take 1 ++ (cs.drop 40).take 38))))) := by
  have e (a b : Nat) : (cs.drop a).take b ++ cs.drop (a + b) = cs.drop a := by
    rw [← List.drop_drop, List.take_append_drop]
  have hlast : (cs.drop 40).take 38 = cs.drop 40 := List.take_of_length_le (by rw [List.length_drop]; omega)
  rw [hlast, e 39 1, e 38 1, e 37 1, e 2 35, e 1 1, e 0 1]
  rfl
set_option maxRecDepth 100000 in
theorem open_make_cells {H : Type} {enc : TypeId × Value → H} {W : World} {n : Nat} {cs : List Value} {x : DataW H × List MemPlace}
    (h : DataW.trod enc Tryz.prog W 0 (fun _ => true) true n 59 cs = some x) (hwt : ∀ n ∈ DataW.weights Tryz.prog 59 x.1, n ≤ 140737488351232) :
    ∃ (m : MakeN) (pa : Option Addr) (pc : Nat), cs = makeL m pa pc ∧ m.In ∧ IAt pa m.op.preds W := by
  obtain ⟨xs, m, _, hx, hcl, hxl, hf⟩ := DataW.trod_struct Tryz.underlying59 h
  have hci : Tryz.prog.cellsOf 3 = 1 := by kernel_rfl
  have hcd : Tryz.prog.cellsOf 27 = 35 := by kernel_rfl
  have hco : Tryz.prog.cellsOf 38 = 38 := by kernel_rfl
  have hcm : Tryz.prog.cellsOf 59 = 78 := by kernel_rfl
  rw [hcm] at hcl
  match xs, hxl with
  | [x0, x1, x2, x3, x4, x5, x6], _ =>
  have t0 : DataW.trod enc Tryz.prog W 0 (fun _ => true) true m 3 ((cs.drop 0).take (Tryz.prog.cellsOf 3)) = some x0 := hf 0 _ rfl
  have t1 : DataW.trod enc Tryz.prog W 0 (fun _ => true) true m 3 ((cs.drop 1).take (Tryz.prog.cellsOf 3)) = some x1 := hf 1 _ rfl
  have t2 : DataW.trod enc Tryz.prog W 0 (fun _ => true) true m 27 ((cs.drop 2).take (Tryz.prog.cellsOf 27)) = some x2 := hf 2 _ rfl
  have t3 : DataW.trod enc Tryz.prog W 0 (fun _ => true) true m 3 ((cs.drop 37).take (Tryz.prog.cellsOf 3)) = some x3 := hf 3 _ rfl
  have t4 : DataW.trod enc Tryz.prog W 0 (fun _ => true) true m 3 ((cs.drop 38).take (Tryz.prog.cellsOf 3)) = some x4 := hf 4 _ rfl
  have t5 : DataW.trod enc Tryz.prog W 0 (fun _ => true) true m 3 ((cs.drop 39).take (Tryz.prog.cellsOf 3)) = some x5 := hf 5 _ rfl
  have t6 : DataW.trod enc Tryz.prog W 0 (fun _ => true) true m 38 ((cs.drop 40).take (Tryz.prog.cellsOf 38)) = some x6 := hf 6 _ rfl
  rw [hci] at t0 t1 t3 t4 t5
  rw [hcd] at t2
  rw [hco] at t6
  have hx1 : x.1 = .agg [x0.1, x1.1, x2.1, x3.1, x4.1, x5.1, x6.1] := congrArg Prod.fst hx
  rw [hx1] at hwt
  simp only [DataW.weights, Tryz.underlying59] at hwt
  obtain ⟨k, e0, _, w0⟩ := DataW.trod_int Tryz.underlying3 t0
  obtain ⟨a, e1, _, w1⟩ := DataW.trod_int Tryz.underlying3 t1
  obtain ⟨d, e2, hd⟩ := open_draft_cells t2 (fun q hq => hwt q (by
    simp only [List.map_cons, List.map_nil, DataW.weightsEach, List.mem_append]
    exact .inr (.inr (.inl hq))))
  obtain ⟨p, e3, _, w3⟩ := DataW.trod_int Tryz.underlying3 t3
  obtain ⟨r, e4, _, w4⟩ := DataW.trod_int Tryz.underlying3 t4
  obtain ⟨s, e5, _, w5⟩ := DataW.trod_int Tryz.underlying3 t5
  obtain ⟨y, pa, pc, e6, hy, hia⟩ := open_op_cells t6 (fun q hq => hwt q (by
    simp only [List.map_cons, List.map_nil, DataW.weightsEach, List.mem_append]
    exact .inr (.inr (.inr (.inr (.inr (.inr (.inl hq))))))))
  simp only [Lit.wf, Bool.and_eq_true, decide_eq_true_eq] at w0 w1 w3 w4 w5
  refine ⟨⟨k, a, d, p, r, s, y⟩, pa, pc, ?_, ⟨⟨w0.1, w0.2⟩, ⟨w1.1, w1.2⟩, hd, ⟨w3.1, w3.2⟩, ⟨w4.1, w4.2⟩, ⟨w5.1, w5.2⟩, hy⟩, hia⟩
  rw [cells_split cs hcl, e0, e1, e2, e3, e4, e5, e6]
  simp [makeL]
set_option maxRecDepth 100000 in
theorem open_makes {H : Type} {enc : TypeId × Value → H} {W : World} {v : Value} {d : DataW H} {p : List MemPlace} {base : Nat} (hv : Value.okWide Tryz.prog W .any base 22 v)
    (h : DataW.Trod enc Tryz.prog W 0 (fun _ => true) true 22 v d p) (hwt : ∀ n ∈ DataW.weights Tryz.prog 22 d, n ≤ 140737488351232) :
    ∃ (ao : Option Addr) (L : List MakeN) (cap : Nat), v = .slice ao L.length cap ∧ MksAt ao L W ∧ (∀ x ∈ L, x.In) ∧ L.length ≤ 140737488351232 := by
  obtain ⟨a0, len0, cap0, rfl⟩ := okWide_slice Tryz.underlying22 hv
  obtain ⟨fuel, hf⟩ := h
  have hc4 : Tryz.prog.cellsOf 59 = 78 := by kernel_rfl
  rcases Deep.open_slice Tryz.underlying22 hf with ⟨hcs, _⟩ | ⟨x, len, cap, m, n, D, Pl, hcs, _, hl, hm, hmm, hx, hi⟩
  · simp [Value.cells] at hcs
    obtain ⟨rfl, rfl, rfl⟩ := hcs
    exact ⟨none, [], 0, rfl, .inl rfl, (fun x hx => by cases hx), by decide⟩
  · simp [Value.cells] at hcs
    obtain ⟨rfl, rfl, rfl⟩ := hcs
    simp only [if_true] at hmm
    subst hmm
    rw [hc4] at hi
    have hd : d = .slice ((List.range len0).map D) ((List.range (m - len0)).map fun j => D (len0 + j)) := congrArg Prod.fst hx
    subst hd
    simp only [DataW.weights, Tryz.underlying22] at hwt
    have hwn := hwt _ (List.mem_cons_self ..)
    have hb48 : Tryz.prog.bytesOf 59 = 224 := by kernel_rfl
    rw [hb48] at hwn
    simp only [List.length_map, List.length_range] at hwn
    have hE : ∀ i, i < len0 → ∃ (y : MakeN) (pa : Option Addr) (pc : Nat), (y.In ∧ IAt pa y.op.preds W) ∧ ∀ j u, (makeL y pa pc)[j]? = some u → W.cell? ((x.add (i * 78)).add j) = some u := by
      intro i him
      obtain ⟨cs', hc, htr⟩ := hi i (by omega)
      obtain ⟨_, hcl, hat⟩ := World.cells?_some hc
      obtain ⟨y, pa, pc, rfl, hok, hia⟩ := open_make_cells htr (fun q hq => hwt q (List.mem_cons_of_mem _ (List.mem_append_left _ (weights_mem_all9 _ (D i) (List.mem_map.2 ⟨i, List.mem_range.2 him, rfl⟩) q hq))))
      refine ⟨y, pa, pc, ⟨hok, hia⟩, fun j u hj => ?_⟩
      have hj4 : j < 78 := by
        have := (List.getElem?_eq_some_iff.1 hj).1
        rw [makeL_len hok] at this
        exact this
      rw [hat j hj4]
      exact hj
    let F : Nat → MakeN := fun i => if h : i < len0 then (hE i h).choose else ⟨0, 0, zeroD, 0, 0, 0, zeroO⟩
    have hF : ∀ i, i < len0 → ∃ (pa : Option Addr) (pc : Nat), ((F i).In ∧ IAt pa (F i).op.preds W) ∧ ∀ j u, (makeL (F i) pa pc)[j]? = some u → W.cell? ((x.add (i * 78)).add j) = some u := by
      intro i him
      simp only [F, dif_pos him]
      exact (hE i him).choose_spec
    have hlen : ((List.range len0).map F).length = len0 := by simp
    refine ⟨some x, (List.range len0).map F, m, by rw [hlen], ?_, ?_, by rw [hlen]; omega⟩
    · by_cases h0 : len0 = 0
      · subst h0; exact .inl rfl
      · obtain ⟨pa0, pc0, h00, h01⟩ := hF 0 (by omega)
        have h1 := h01 0 _ rfl
        obtain ⟨b, o, spot⟩ := x
        have hspot : spot = none := by simpa [Addr.add] using World.cell?_spot h1
        subst hspot
        refine .inr ⟨b, o, rfl, ?_, fun i y hy => ?_⟩
        · have := lt_of_cell h1
          simpa [Addr.add] using this
        · have hi3 : i < len0 := by have := (List.getElem?_eq_some_iff.1 hy).1; simpa using this
          simp only [List.getElem?_map, List.getElem?_range hi3, Option.map_some, Option.some.injEq] at hy
          subst hy
          obtain ⟨pa, pc, g1, g2⟩ := hF i hi3
          refine ⟨pa, pc, fun j u hj => ?_, g1.2⟩
          have := g2 j u hj
          rw [Addr.add_mid, Addr.add_mid] at this
          exact this
    · intro z hz
      obtain ⟨i, hi2, rfl⟩ := List.mem_map.1 hz
      obtain ⟨_, _, g1, _⟩ := hF i (List.mem_range.1 hi2)
      exact g1.1
def IntsIn (ao : Option Addr) (L : List Int) (W : World) : Prop := ∀ i, i < L.length → ∃ a, ao = some a ∧ W.cell? (a.add i) = some (.int .i64 (L.getD i 0))
set_option maxRecDepth 100000 in
theorem open_int_slice {H : Type} {enc : TypeId × Value → H} {W : World} {v : Value} {d : DataW H} {p : List MemPlace} {base : Nat} (hv : Value.okWide Tryz.prog W .any base 23 v)
    (h : DataW.Trod enc Tryz.prog W 0 (fun _ => true) true 23 v d p) (hwt : ∀ n ∈ DataW.weights Tryz.prog 23 d, n ≤ 140737488351232) :
    ∃ (ao : Option Addr) (L : List Int) (cap : Nat), v = .slice ao L.length cap ∧ IntsIn ao L W ∧ (∀ z ∈ L, I64 z) ∧ L.length ≤ 140737488351232 := by
  obtain ⟨a0, len0, cap0, rfl⟩ := okWide_slice Tryz.underlying23 hv
  obtain ⟨fuel, hf⟩ := h
  rcases ChangeShapes.open_ints Tryz.underlying23 Tryz.underlying3 (by kernel_rfl) hf with ⟨hcs, _⟩ | ⟨a, len, cap, zs, hcs, _, hl, _, hz, hx, hc, hw⟩
  · simp [Value.cells] at hcs
    obtain ⟨rfl, rfl, rfl⟩ := hcs
    exact ⟨none, [], 0, rfl, (fun i hi => by cases hi), (fun z hz => by cases hz), by decide⟩
  · simp [Value.cells] at hcs
    obtain ⟨rfl, rfl, rfl⟩ := hcs
    simp only [if_true] at hz
    have hd : d = .slice (ChangeShapes.lits .i64 (zs.take len0)) (ChangeShapes.lits .i64 (zs.drop len0)) := congrArg Prod.fst hx
    subst hd
    simp only [DataW.weights, Tryz.underlying23] at hwt
    have hwn := hwt _ (List.mem_cons_self ..)
    have hb8 : Tryz.prog.bytesOf 3 = 8 := by kernel_rfl
    rw [hb8] at hwn
    simp only [ChangeShapes.lits, List.length_map, List.length_take, List.length_drop] at hwn
    have hlen : (zs.take len0).length = len0 := by rw [List.length_take]; omega
    refine ⟨some a, zs.take len0, cap0, by rw [hlen], fun i hi => ⟨a, rfl, ?_⟩, fun z hz2 => ?_, by rw [hlen]; omega⟩
    · rw [hlen] at hi
      rw [hc i (by omega), List.getD_eq_getElem?_getD, List.getD_eq_getElem?_getD, List.getElem?_take_of_lt hi]
    · have := hw z (List.mem_of_mem_take hz2)
      simp only [Lit.wf, Bool.and_eq_true, decide_eq_true_eq] at this
      exact ⟨this.1, this.2⟩
end Go.Proofs.YtandadfphlandaaGreatDoor
namespace Go.Proofs.YtandadfphlandaaGreatDoor
open Go.RowKit
structure Deep (s : DagN) : Prop where
  deep : ∀ o ∈ s.ops, o.depth = depthN s.ops o
  closed : ∀ o ∈ s.ops, ∀ p ∈ o.preds, p ∈ s.names
theorem depthAt_app {ops : List OpN} {o : OpN} {p : List Nat} (hp : p ∈ ops.map nameN) : depthAt (ops ++ [o]) p = depthAt ops p := by
  have hl : (ops.map nameN).idxOf p < ops.length := by
    have := List.idxOf_lt_length_iff.2 hp
    rwa [List.length_map] at this
  unfold depthAt
  rw [List.map_append, List.idxOf_append, if_pos hp, List.getElem?_append_left hl]
theorem maxD_from {ops : List OpN} {o : OpN} : ∀ (L : List (List Nat)) (m : Int), (∀ p ∈ L, p ∈ ops.map nameN) → L.foldl (fun n p => if n < depthAt (ops ++ [o]) p then depthAt (ops ++ [o]) p else n) m = L.foldl (fun n p => if n < depthAt ops p then depthAt ops p else n) m
  | [], _, _ => rfl
  | p :: L, m, h => by
    rw [List.foldl_cons, List.foldl_cons, depthAt_app (h p (List.mem_cons_self ..))]
    exact maxD_from L _ (fun q hq => h q (List.mem_cons_of_mem _ hq))
theorem depthN_app {ops : List OpN} {o x : OpN} (h : ∀ p ∈ x.preds, p ∈ ops.map nameN) : depthN (ops ++ [o]) x = depthN ops x := by
  unfold depthN maxD
  rw [maxD_from _ _ h]
theorem Deep.new : Deep DagN.new := ⟨(fun o ho => by cases ho), (fun o ho => by cases ho)⟩
theorem Deep.push {s : DagN} (h : Deep s) {o : OpN} (hw : wholeN s.names o = true) (hd : o.depth = depthN s.ops o) (W : List OpN) : Deep ⟨s.ops ++ [o], W⟩ := by
  have hc := wholeN_iff.1 hw
  refine ⟨fun x hx => ?_, fun x hx p hp => ?_⟩
  · rcases List.mem_append.1 hx with hx | hx
    · show x.depth = depthN (s.ops ++ [o]) x
      rw [depthN_app (h.closed x hx)]
      exact h.deep x hx
    · obtain rfl := List.mem_singleton.1 hx
      show x.depth = depthN (s.ops ++ [x]) x
      rw [depthN_app hc]
      exact hd
  · show p ∈ (s.ops ++ [o]).map nameN
    rw [List.map_append]
    refine List.mem_append_left _ ?_
    rcases List.mem_append.1 hx with hx | hx
    · exact h.closed x hx p hp
    · obtain rfl := List.mem_singleton.1 hx
      exact hc p hp
theorem Deep.settle : ∀ (f : Nat) (s : DagN), Deep s → Deep (settleN f s).2
  | 0, s, h => h
  | f + 1, s, h => by
    unfold settleN
    split
    · exact h
    · rename_i i hb
      obtain ⟨o, ho, hw, _⟩ := best_some _ _ hb
      rw [ho]
      dsimp only
      split
      · rename_i hd
        exact Deep.settle f _ (h.push hw hd _)
      · exact Deep.settle f _ ⟨h.deep, h.closed⟩
theorem Deep.take {s : DagN} (h : Deep s) (o : OpN) : Deep (takeN s o).2.2 := by
  unfold takeN
  split
  · exact h
  · split
    · exact h
    · split
      · exact ⟨h.deep, h.closed⟩
      · rename_i hw
        split
        · exact h
        · rename_i hd
          exact Deep.settle _ _ (h.push (by simpa using hw) (Classical.not_not.1 hd) _)
theorem depth_of {s : DagN} (hn : s.names.Nodup) {x : OpN} (hx : x ∈ s.ops) : depthAt s.ops (nameN x) = x.depth := by
  obtain ⟨i, hi, rfl⟩ := List.getElem_of_mem hx
  have hl : i < s.names.length := by rw [DagN.names, List.length_map]; exact hi
  have e : (s.ops.map nameN).idxOf (nameN s.ops[i]) = i := by
    have h1 : (s.ops.map nameN)[i]'hl = nameN s.ops[i] := List.getElem_map ..
    rw [← h1]
    exact hn.idxOf_getElem i hl
  unfold depthAt
  rw [e, List.getElem?_eq_getElem hi]
  rfl
theorem maxD_snoc (ops : List OpN) (L : List (List Nat)) (p : List Nat) : maxD ops (L ++ [p]) = max (maxD ops L) (depthAt ops p) := by
  unfold maxD
  rw [List.foldl_append, List.foldl_cons, List.foldl_nil]
  split <;> omega
theorem idx_of (a : Int) {n : Nat} (h : 0 < n) (hn : n ≤ 1000000000) : ∃ q : Nat, q < n ∧ wrap64 ((IntKind.u64.wrap a).tmod (n : Int)) = (q : Int) := by
  have e : IntKind.u64.wrap a = a % 18446744073709551616 := by simp [IntKind.wrap, IntKind.bits, IntKind.signed]
  have h0 : 0 ≤ IntKind.u64.wrap a := by rw [e]; omega
  generalize IntKind.u64.wrap a = u at h0
  rw [Int.tmod_eq_emod_of_nonneg h0]
  have h1 : 0 ≤ u % (n : Int) := Int.emod_nonneg _ (by omega)
  have h2 : u % (n : Int) < (n : Int) := Int.emod_lt_of_pos _ (by omega)
  generalize u % (n : Int) = r at h1 h2
  refine ⟨r.toNat, by omega, ?_⟩
  unfold wrap64
  omega
theorem ints_at {bo : Option Addr} {r : List Int} {W : World} (h : IntsIn bo r W) (h0 : 0 < r.length) : ∃ b o, bo = some ⟨b, o, none⟩ ∧ b < W.heap.size ∧ ∀ i, i < r.length → W.cell? ⟨b, o + i, none⟩ = some (.int .i64 (r.getD i 0)) := by
  obtain ⟨a, ha, hc⟩ := h 0 h0
  obtain ⟨b, o, spot⟩ := a
  have hspot : spot = none := by simpa [Addr.add] using World.cell?_spot hc
  subst hspot
  refine ⟨b, o, ha, ?_, fun i hi => ?_⟩
  · have := lt_of_cell hc
    simpa [Addr.add] using this
  · obtain ⟨a', ha', hc'⟩ := h i hi
    rw [ha] at ha'
    cases ha'
    have e : (⟨b, o, none⟩ : Addr).add i = ⟨b, o + i, none⟩ := Addr.add_lit ..
    rw [← e]
    exact hc'
end Go.Proofs.YtandadfphlandaaGreatDoor
namespace Go.Proofs.YtandadfphlandaaGreatDoor
open Go.RowKit Go.BigFrame
def OffX (X : Nat → Prop) (pa : Option Addr) (L : List (List Nat)) : Prop := ∀ a, pa = some a → L ≠ [] → ¬ X a.block
theorem OffX.mono {X Y : Nat → Prop} {pa : Option Addr} {L : List (List Nat)} (h : OffX X pa L) (k : ∀ b, Y b → X b) : OffX Y pa L := fun a ha h0 hy => h a ha h0 (k _ hy)
theorem OffX.fresh {X : Nat → Prop} {pa : Option Addr} {L : List (List Nat)} {w : World} (h : OffX X pa L) (hi : IAt pa L w) : OffX (fun b => X b ∨ w.heap.size ≤ b) pa L := fun a ha h0 hy => by
  rcases hy with hy | hy
  · exact h a ha h0 hy
  · have := hi.lt h0 ha
    omega
theorem IAt.only {O : Nat → Prop} {pa : Option Addr} {L : List (List Nat)} {w w' : World} (h : IAt pa L w) (k : Only O w w') (hO : OffX O pa L) : IAt pa L w' := by
  rcases h with h | ⟨b, o, rfl, h2, h3⟩
  · exact .inl h
  · by_cases h0 : L = []
    · exact .inl h0
    · exact .inr ⟨b, o, rfl, Nat.lt_of_lt_of_le h2 k.size, fun i hi j v hv => (World.cell?_of_block (a := ⟨b, o + 32 * i + j, none⟩) (k.block b h2 (hO _ rfl h0))).trans (h3 i hi j v hv)⟩
def OpX (X : Nat → Prop) (b o : Nat) (x : OpN) (w : World) : Prop := ∃ pa pc, w.rangeAt b o (opL x pa pc) ∧ IAt pa x.preds w ∧ OffX X pa x.preds
def OpsX (X : Nat → Prop) (ao : Option Addr) (L : List OpN) (w : World) : Prop :=
  L = [] ∨ ∃ b o, ao = some ⟨b, o, none⟩ ∧ b < w.heap.size ∧ ∀ (i : Nat) (x : OpN), L[i]? = some x → OpX X b (o + i * 38) x w
theorem OpsX.below {X : Nat → Prop} {ao : Option Addr} {L : List OpN} {w w' : World} (h : OpsX X ao L w) (hb : Below w.heap.size w w') : OpsX X ao L w' := by
  rcases h with h | ⟨b, o, h1, h2, h3⟩
  · exact .inl h
  · refine .inr ⟨b, o, h1, Nat.lt_of_lt_of_le h2 hb.size, fun i x hx => ?_⟩
    obtain ⟨pa, pc, q1, q2, q3⟩ := h3 i x hx
    exact ⟨pa, pc, rangeAt_belowI q1 hb h2, q2.below hb, q3⟩
theorem OpsX.get {X : Nat → Prop} {ao : Option Addr} {L : List OpN} {w : World} (h : OpsX X ao L w) {i : Nat} {x : OpN} (hx : L[i]? = some x) : ∃ b o, ao = some ⟨b, o, none⟩ ∧ b < w.heap.size ∧ OpX X b (o + i * 38) x w := by
  rcases h with rfl | ⟨b, o, h1, h2, h3⟩
  · cases hx
  · exact ⟨b, o, h1, h2, h3 i x hx⟩
theorem OpsX.cells {X : Nat → Prop} {ad : Addr} {L : List OpN} {w : World} (h : OpsX X (some ad) L w) (hd : ∀ x ∈ L, x.d.ref.length = 32) :
    ∃ C : List (List Value), Wide 38 C ∧ C.length = L.length ∧ (∀ j u, C.flatten[j]? = some u → w.cell? (ad.add j) = some u) ∧ ∀ (i : Nat) (x : OpN), L[i]? = some x → ∃ pa pc, C[i]? = some (opL x pa pc) ∧ IAt pa x.preds w ∧ OffX X pa x.preds := by
  rcases h with rfl | ⟨b, o, h1, h2, h3⟩
  · exact ⟨[], Wide.nil _, rfl, fun j u hu => (by cases hu), fun i x hx => (by cases hx)⟩
  · cases h1
    have hE : ∀ i, i < L.length → ∃ p : Option Addr × Nat, w.rangeAt b (o + i * 38) (opL (L.getD i zeroO) p.1 p.2) ∧ IAt p.1 (L.getD i zeroO).preds w ∧ OffX X p.1 (L.getD i zeroO).preds := fun i hi => by
      obtain ⟨pa, pc, hq⟩ := h3 i (L.getD i zeroO) (by rw [List.getD_eq_getElem?_getD, List.getElem?_eq_getElem hi]; rfl)
      exact ⟨(pa, pc), hq⟩
    let F : Nat → List Value := fun i => if h : i < L.length then opL (L.getD i zeroO) (hE i h).choose.1 (hE i h).choose.2 else []
    have hF : ∀ i (h : i < L.length), F i = opL (L.getD i zeroO) (hE i h).choose.1 (hE i h).choose.2 := fun i h => by simp only [F, dif_pos h]
    have hW : Wide 38 ((List.range L.length).map F) := fun x hx => by
      obtain ⟨i, hi, rfl⟩ := List.mem_map.1 hx
      have hi := List.mem_range.1 hi
      rw [hF i hi]
      exact opL_len (hd _ (by rw [List.getD_eq_getElem?_getD, List.getElem?_eq_getElem hi]; exact List.getElem_mem hi))
    refine ⟨(List.range L.length).map F, hW, by simp, fun j u hu => ?_, fun i x hx => ?_⟩
    · have hj := (List.getElem?_eq_some_iff.1 hu).1
      rw [flat_len hW, List.length_map, List.length_range] at hj
      obtain ⟨i, m, rfl, hm, hi⟩ := block_of (K := 38) (q := j) (n := L.length) (by decide)
      have hi := hi hj
      rw [flat_get hW (by simpa using hi) hm, List.getD_eq_getElem?_getD, List.getElem?_map, List.getElem?_range hi, Option.map_some, Option.getD_some, hF i hi] at hu
      have := (hE i hi).choose_spec.1 m u hu
      rw [Addr.add_mid, show o + (38 * i + m) = o + i * 38 + m by omega]
      exact this
    · have hi := (List.getElem?_eq_some_iff.1 hx).1
      have hxi : L.getD i zeroO = x := by rw [List.getD_eq_getElem?_getD, hx]; rfl
      have hsp := (hE i hi).choose_spec
      have hFi := hF i hi
      obtain ⟨p, hp⟩ : ∃ p, (hE i hi).choose = p := ⟨_, rfl⟩
      rw [hp] at hsp hFi
      rw [hxi] at hsp hFi
      exact ⟨p.1, p.2, by rw [List.getElem?_map, List.getElem?_range hi, Option.map_some, hFi], hsp.2.1, hsp.2.2⟩
def OwnX (X : Nat → Prop) (B : Nat) (e : TypeId) (v : Value) (L : List OpN) (w : World) : Prop :=
  ∃ C : List (List Value), w.ownsRow B e 38 v L.length C.flatten ∧ Wide 38 C ∧ C.length = L.length ∧ ∀ (i : Nat) (x : OpN), L[i]? = some x → ∃ pa pc, C[i]? = some (opL x pa pc) ∧ IAt pa x.preds w ∧ OffX X pa x.preds
theorem OwnX.nil (X : Nat → Prop) (B : Nat) (e : TypeId) (w : World) : OwnX X B e (.slice none 0 0) [] w := ⟨[], World.ownsRow_nil _ _ _ _, Wide.nil _, rfl, fun i x hx => by cases hx⟩
theorem OwnX.lit (X : Nat → Prop) (e : TypeId) (w : World) : OwnX X w.heap.size e (.slice (some ⟨w.heap.size, 0, none⟩) 0 0) [] (w.alloc (.cells #[] e)) :=
  ⟨[], World.ownsRow_lit w #[] 0 (Nat.le_refl _) (by unfold maxLen; omega) rfl, Wide.nil _, rfl, fun i x hx => by cases hx⟩
theorem OwnX.form {X : Nat → Prop} {B : Nat} {e : TypeId} {v : Value} {L : List OpN} {w : World} (h : OwnX X B e v L w) : ∃ ao cap, v = .slice ao L.length cap := by
  obtain ⟨C, h, _⟩ := h
  rcases h.2 with ⟨hv, h0⟩ | ⟨g, cap, cur, hv, _⟩
  · exact ⟨none, 0, by rw [hv, h0]⟩
  · exact ⟨some ⟨g, 0, none⟩, cap, hv⟩
theorem OwnX.formB {X : Nat → Prop} {B : Nat} {e : TypeId} {v : Value} {L : List OpN} {w : World} (h : OwnX X B e v L w) : v = .slice none 0 0 ∧ L = [] ∨ ∃ g cap, v = .slice (some ⟨g, 0, none⟩) L.length cap ∧ L.length ≤ cap ∧ B ≤ g ∧ g < w.heap.size := by
  obtain ⟨C, h, _⟩ := h
  rcases h.2 with ⟨hv, h0⟩ | ⟨g, cap, cur, hv, hB, hg, hc, _⟩
  · exact .inl ⟨hv, List.length_eq_zero_iff.1 h0⟩
  · exact .inr ⟨g, cap, hv, hc, hB, lt_of_block hg⟩
theorem OwnX.lt {X : Nat → Prop} {B : Nat} {e : TypeId} {v : Value} {L : List OpN} {w : World} (h : OwnX X B e v L w) {g : Nat} (hg : v.ownBlock = some g) : B ≤ g ∧ g < w.heap.size := by
  obtain ⟨C, h1, _⟩ := h
  exact World.ownsRow.lt h1 g hg
theorem OwnX.mono {X Y : Nat → Prop} {B B' : Nat} {e : TypeId} {v : Value} {L : List OpN} {w : World} (h : OwnX X B e v L w) (k : ∀ b, Y b → X b) (hB : B' ≤ B) : OwnX Y B' e v L w := by
  obtain ⟨C, h1, h2, h3, h4⟩ := h
  refine ⟨C, ⟨h1.1, ?_⟩, h2, h3, fun i x hx => ?_⟩
  · rcases h1.2 with h0 | ⟨g, cap, cur, hv, hg, r⟩
    · exact Or.inl h0
    · exact Or.inr ⟨g, cap, cur, hv, Nat.le_trans hB hg, r⟩
  · obtain ⟨pa, pc, q1, q2, q3⟩ := h4 i x hx
    exact ⟨pa, pc, q1, q2, q3.mono k⟩
theorem OwnX.below {X : Nat → Prop} {B : Nat} {e : TypeId} {v : Value} {L : List OpN} {w w' : World} (h : OwnX X B e v L w) (k : Below w.heap.size w w') : OwnX X B e v L w' := by
  obtain ⟨C, h1, h2, h3, h4⟩ := h
  refine ⟨C, World.ownsRow.kept (row := none) h1 ⟨k.os, k.tape, k.output, k.size, fun i hi _ => k.block i hi⟩ (Classical.em _), h2, h3, fun i x hx => ?_⟩
  obtain ⟨pa, pc, q1, q2, q3⟩ := h4 i x hx
  exact ⟨pa, pc, q1, q2.below k, q3⟩
theorem OwnX.only {X O : Nat → Prop} {B : Nat} {e : TypeId} {v : Value} {L : List OpN} {w w' : World} (h : OwnX X B e v L w) (k : Only O w w') (hO : ∀ b, O b → X b) (hv : ∀ g, v.ownBlock = some g → ¬ O g) : OwnX X B e v L w' := by
  obtain ⟨C, h1, h2, h3, h4⟩ := h
  refine ⟨C, ⟨h1.1, ?_⟩, h2, h3, fun i x hx => ?_⟩
  · rcases h1.2 with h0 | ⟨g, cap, cur, he, hB, hg, r⟩
    · exact .inl h0
    · exact .inr ⟨g, cap, cur, he, hB, (k.block g (lt_of_block hg) (hv g (by rw [he]; rfl))).trans hg, r⟩
  · obtain ⟨pa, pc, q1, q2, q3⟩ := h4 i x hx
    exact ⟨pa, pc, q1, q2.only k (q3.mono hO), q3⟩
theorem OwnX.at {X : Nat → Prop} {B : Nat} {e : TypeId} {ao : Option Addr} {n c : Nat} {L : List OpN} {w : World} (h : OwnX X B e (.slice ao n c) L w) : OpsX X ao L w := by
  obtain ⟨C, h1, h2, h3, h4⟩ := h
  by_cases h0 : L = []
  · exact .inl h0
  · rcases h1.2 with ⟨hv, hz⟩ | ⟨g, cap, cur, hv, hB, hcell, _⟩
    · exact absurd (List.length_eq_zero_iff.1 hz) h0
    · obtain rfl : ao = some ⟨g, 0, none⟩ := by injection hv
      refine .inr ⟨g, 0, rfl, lt_of_block hcell, fun i x hx => ?_⟩
      obtain ⟨pa, pc, q1, q2, q3⟩ := h4 i x hx
      refine ⟨pa, pc, fun j v hj => ?_, q2, q3⟩
      have hi : i < C.length := (List.getElem?_eq_some_iff.1 q1).1
      have hcd : C.getD i [] = opL x pa pc := by rw [List.getD_eq_getElem?_getD, q1]; rfl
      have hj38 : j < 38 := by
        have h5 := (List.getElem?_eq_some_iff.1 hj).1
        have h6 := h2.getD hi
        rw [hcd] at h6
        omega
      have hc := World.ownsRow.cells h1 (g := g) rfl (38 * i + j) v
      rw [flat_get h2 hi hj38, hcd, Addr.add_lit, Nat.zero_add] at hc
      rw [Nat.zero_add, Nat.mul_comm]
      exact hc hj
theorem wpList_append_opsX {P : Program} {w : World} {ops : Array Oper} {rest : List Oper} {o : Oper} {a : Act} {Q : Exit → Act → World → Prop} (hgd : o.guard = none) (s x : Operand) (t e : TypeId)
    (ho : o.op = .call { callee := .builtin .append, args := #[s, x], argTypes := #[t, t] })
    (B bytes : Nat) (z : Value) (hzs : z.cells.size = 38) (hby : bytes ≤ 1024) (ht : P.underlying t = some (.slice e)) (hinfo : (P.info? e).map (fun i => (i.zero, i.size, i.bytes)) = some (some z, 38, bytes))
    (X : Nat → Prop) (v : Value) (L M : List OpN) (hM : ∀ x ∈ M, x.d.ref.length = 32) (ad : Addr) (n c : Nat) (hn : n = M.length) (hs : a.eval s = v) (hown : OwnX X B e v L w) (hX : ∀ g, v.ownBlock = some g → X g) (hx : a.eval x = .slice (some ad) n c)
    (hsrc : OpsX X (some ad) M w) (h63 : L.length + M.length ≤ 1000000) (hB : B ≤ w.heap.size)
    (h : ∀ v' w', Hid (OwnX (fun b => X b ∨ w.heap.size ≤ b) B e v' (L ++ M) w') → Hid (w.grownBy w' v.ownBlock) → Hid (v'.ownBlock = v.ownBlock ∨ v'.ownBlock = some w.heap.size) → wpList P ops Q rest (a.put o.dst v') w') : wpList P ops Q (o :: rest) a w := by
  obtain ⟨i, hi, hz0, hz1, hz2⟩ := info_parts hinfo
  obtain ⟨C, h1, h2, h3, h4⟩ := hown
  obtain ⟨D, d1, d2, d3, d4⟩ := hsrc.cells hM
  subst hn
  refine wpList_append_own_at w hgd s x _ ho B e i z 38 bytes ht hi hz0 hz1 hz2 hzs (by decide) v L.length C.flatten hs h1 ad M.length c D.flatten hx (by rw [flat_len d1, d2]) d3 (fun u hu => ?_) (by unfold maxLen; omega)
    (Nat.le_trans (Nat.mul_le_mul (show L.length + M.length ≤ 1000000 by omega) hby) (by decide)) hB ?_
  · obtain ⟨r, hr, hur⟩ := List.mem_flatten.1 hu
    obtain ⟨q, hq, rfl⟩ := List.getElem_of_mem hr
    obtain ⟨pa, pc, e1, _⟩ := d4 q (M[q]'(by omega)) (List.getElem?_eq_getElem _)
    rw [List.getElem?_eq_getElem hq] at e1
    rw [Option.some.inj e1] at hur
    exact opL_one _ _ _ u hur
  · intro v' w' q1 q2 _ q3
    refine h v' w' ⟨C ++ D, ?_, ?_, by rw [List.length_append, List.length_append, h3, d2], fun j y hj => ?_⟩ q2 q3
    · rw [List.length_append, List.flatten_append]
      exact q1
    · intro y hy
      exact (List.mem_append.1 hy).elim (h2 y) (d1 y)
    · have hoff : ∀ (pa : Option Addr) (K : List (List Nat)), IAt pa K w → OffX X pa K → IAt pa K w' ∧ OffX (fun b => X b ∨ w.heap.size ≤ b) pa K := fun pa K hk hx => by
        refine ⟨hk.grown q2 (fun a ha h0 e => hx a ha h0 (hX a.block e)), hx.fresh hk⟩
      by_cases hjl : j < L.length
      · rw [List.getElem?_append_left hjl] at hj
        obtain ⟨pa, pc, r1, r2, r3⟩ := h4 j y hj
        exact ⟨pa, pc, by rw [List.getElem?_append_left (by omega)]; exact r1, hoff pa _ r2 r3⟩
      · rw [List.getElem?_append_right (by omega)] at hj
        obtain ⟨pa, pc, r1, r2, r3⟩ := d4 _ y hj
        exact ⟨pa, pc, by rw [List.getElem?_append_right (by omega), h3]; exact r1, hoff pa _ r2 r3⟩
end Go.Proofs.YtandadfphlandaaGreatDoor
