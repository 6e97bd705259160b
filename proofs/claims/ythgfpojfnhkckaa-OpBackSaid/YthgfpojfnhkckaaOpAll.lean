/-
  The document's SameAll.
-/
import Derived.Test.YthgfpojfnhkckaaOpRow
import Derived.Test.YthgfpojfnhkckaaLay
namespace Go.Proofs.Ythgfpojfnhkckaa
open Go.RowKit Go.BigFrame

theorem ops_all {A B : List OpN} {n : Nat} (hA : A.length = n) (hB : B.length = n) (h : ∀ j, j < n → A[j]? = B[j]?) : A = B := by
  refine List.ext_getElem? fun j => ?_
  by_cases hj : j < n
  · exact h j hj
  · rw [List.getElem?_eq_none (by omega), List.getElem?_eq_none (by omega)]
set_option maxHeartbeats 4000000 in
set_option maxRecDepth 100000 in
theorem ref_sameAll (A B : List OpN) (pa pb : Option Addr) (ca cb : Nat) (w : World) (hA : ∀ x ∈ A, x.Ok) (hB : ∀ x ∈ B, x.Ok) (hpa : OpsAt pa A w) (hpb : OpsAt pb B w)
    (hnA : ∀ x ∈ A, x.preds.length ≤ 140737488351232) (hnB : ∀ x ∈ B, x.preds.length ≤ 140737488351232) (hlA : A.length ≤ 140737488351232) (hlB : B.length ≤ 140737488351232) :
    Calls Try.prog 22 #[.slice pa A.length ca, .slice pb B.length cb] w fun e w' => e = .returned (.bool (decide (A = B))) ∧ Below w.heap.size w w' := by
  have HPA := Lib.hid hpa
  have HPB := Lib.hid hpb
  have HA := Lib.hid hA
  have HB := Lib.hid hB
  have HNA := Lib.hid hnA
  have HNB := Lib.hid hnB
  clear hpa hpb hA hB hnA hnB
  obtain ⟨n, hn⟩ : ∃ n, A.length = n := ⟨_, rfl⟩
  obtain ⟨m, hm⟩ : ∃ m, B.length = m := ⟨_, rfl⟩
  have HLA := Shut.mk hn
  have HLB := Shut.mk hm
  rw [hn] at hlA ⊢
  rw [hm] at hlB ⊢
  clear hn hm
  by_cases h3 : ¬ n = m
  · have h3b : ((n : Int) != (m : Int)) = true := by simp; omega
    have HR := Shut.mk (show decide (A = B) = false from decide_eq_false (fun h => h3 (by rw [← HLA.out, ← HLB.out, h])))
    go_enter Try.func22, Try.ntmps22
    go_wp2_with fail
    go_ret
    exact ⟨by rw [HR.out]; rfl, Below.refl _ _⟩
  have h3 := Classical.not_not.1 h3
  subst h3
  go_enter Try.func22, Try.ntmps22
  go_wp2_with fail
  go_loopw [13] (fun i wr => ∃ k : Nat, k ≤ n ∧ i = .int .i64 k ∧ (∀ j, j < k → A[j]? = B[j]?) ∧ Below w.heap.size w wr) (fun i _ => n - (intOf i).toNat)
  case atStart => exact ⟨0, Nat.zero_le _, rfl, fun j hj => by omega, Below.refl _ _⟩
  case round =>
    obtain ⟨k, hk, rfl, hj, hb⟩ := hrel
    have HJ := Lib.hid hj
    have HBW := Lib.hid hb
    clear hj hb
    by_cases hkn : k < n
    · obtain ⟨a, hak⟩ : ∃ a, A[k]? = some a := ⟨_, List.getElem?_eq_getElem (by rw [HLA.out]; exact hkn)⟩
      obtain ⟨b, hbk⟩ : ∃ b, B[k]? = some b := ⟨_, List.getElem?_eq_getElem (by rw [HLB.out]; exact hkn)⟩
      have HAK := Shut.mk hak
      have HBK := Shut.mk hbk
      have ham := List.mem_of_getElem? hak
      have hbm := List.mem_of_getElem? hbk
      obtain ⟨ga, oa, rfl, hga, hoa⟩ := (HPA.out.below HBW.out).get hak
      obtain ⟨gb, ob, rfl, hgb, hob⟩ := (HPB.out.below HBW.out).get hbk
      obtain ⟨qa, ra, r1, i1⟩ := hoa
      obtain ⟨qb, rb, r2, i2⟩ := hob
      have HR1 := Lib.hid (fun (w' : World) (q : Below wr.heap.size wr w') => show w'.rangeAt ga (oa + k * 38) (opL a qa ra) from rangeAt_belowI r1 q hga)
      have HR2 := Lib.hid (fun (w' : World) (q : Below wr.heap.size wr w') => show w'.rangeAt gb (ob + k * 38) (opL b qb rb) from rangeAt_belowI r2 q hgb)
      have HS1 := Lib.hid (show (Try.prog.info? 28).map (·.size) = some (opL a qa ra).length by rw [opL_len (HA.out a ham).ref.1]; exact Try.sizeO)
      have HS2 := Lib.hid (show (Try.prog.info? 28).map (·.size) = some (opL b qb rb).length by rw [opL_len (HB.out b hbm).ref.1]; exact Try.sizeO)
      have HC := Lib.hid (fun (w' : World) (q : Below wr.heap.size wr w') => ref_same9 a b qa qb ra rb w' (HA.out a ham) (HB.out b hbm) (i1.below q) (i2.below q) (HNA.out a ham) (HNB.out b hbm))
      obtain ⟨z, hz⟩ : ∃ z, decide (a = b) = z := ⟨_, rfl⟩
      have HZ := Shut.mk hz
      rw [hz] at HC
      clear hak hbk ham hbm hga hgb r1 r2 i1 i2 hz
      cases z with
      | true =>
        have HXY := Shut.mk (of_decide_eq_true HZ.out)
        go_upto_region 6 with (fail)
        refine wp_region_class (fun w' => Below wr.heap.size wr w') (by kernel_rfl) (by kernel_rfl) (Below.refl _ _).drew ?_
        repeat (first
          | go_big_quiet_skip
          | (go_big_quiet_want; refine quiet_load_row 28 _ rfl ga (oa + k * 38) (opL a qa ra) _ rfl HR1.out Try.underlying28 rfl HS1.out ?_; go_big_quiet_on; simp only [Act.put, List.setIfInBounds_toArray, List.set_cons_zero, List.set_cons_succ])
          | (go_big_quiet_want; refine quiet_load_row 28 _ rfl gb (ob + k * 38) (opL b qb rb) _ rfl HR2.out Try.underlying28 rfl HS2.out ?_; go_big_quiet_on; simp only [Act.put, List.setIfInBounds_toArray, List.set_cons_zero, List.set_cons_succ])
          | go_big_quiet_step ((intro hs'; first
              | rfl
              | (go_at_call 21; exact (HC.out _ hs').mono fun e w' h => ⟨h.1, hs'.trans (h.2.mono hs'.size)⟩))))
        refine wpQuiet_nil ?_
        intro w3 hb2
        go_wp2_with fail
        refine ⟨⟨k + 1, by omega, by go_num, fun q hq => ?_, HBW.out.trans (hb2.mono HBW.out.size)⟩, by simp [intOf]; omega⟩
        by_cases hqj : q = k
        · subst hqj
          rw [HAK.out, HBK.out, HXY.out]
        · exact HJ.out q (by omega)
      | false =>
        have hxy := of_decide_eq_false HZ.out
        have HR := Shut.mk (show decide (A = B) = false from decide_eq_false (fun h => hxy (by have h1 := HAK.out; rw [h, HBK.out] at h1; exact (Option.some.inj h1).symm)))
        clear hxy
        go_upto_region 6 with (fail)
        refine wp_region_class (fun w' => Below wr.heap.size wr w') (by kernel_rfl) (by kernel_rfl) (Below.refl _ _).drew ?_
        repeat (first
          | go_big_quiet_skip
          | (go_big_quiet_want; refine quiet_load_row 28 _ rfl ga (oa + k * 38) (opL a qa ra) _ rfl HR1.out Try.underlying28 rfl HS1.out ?_; go_big_quiet_on; simp only [Act.put, List.setIfInBounds_toArray, List.set_cons_zero, List.set_cons_succ])
          | (go_big_quiet_want; refine quiet_load_row 28 _ rfl gb (ob + k * 38) (opL b qb rb) _ rfl HR2.out Try.underlying28 rfl HS2.out ?_; go_big_quiet_on; simp only [Act.put, List.setIfInBounds_toArray, List.set_cons_zero, List.set_cons_succ])
          | go_big_quiet_step ((intro hs'; first
              | rfl
              | (go_at_call 21; exact (HC.out _ hs').mono fun e w' h => ⟨h.1, hs'.trans (h.2.mono hs'.size)⟩))))
        refine wpQuiet_nil ?_
        intro w3 hb2
        go_wp2_with fail
        go_ret
        exact ⟨by rw [HR.out]; rfl, HBW.out.trans (hb2.mono HBW.out.size)⟩
    · obtain rfl : k = n := by omega
      have HR := Shut.mk (show decide (A = B) = true from decide_eq_true (ops_all HLA.out HLB.out HJ.out))
      go_wp2_with fail
      go_ret
      exact ⟨by rw [HR.out]; rfl, HBW.out⟩
end Go.Proofs.Ythgfpojfnhkckaa
