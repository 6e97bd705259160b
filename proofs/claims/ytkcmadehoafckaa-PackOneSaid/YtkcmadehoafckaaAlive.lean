/-
  What the laws of layer 1 ask first.
-/
import Derived.Test.YtkcmadehoafckaaList
namespace Go.Proofs.Ytkcmadehoafckaa
open Go.RowKit

theorem numB_258 : numB 258 = [2, 1, 2] := by
  have h1 : dig 258 = [1, 2] := by rw [dig_pos (by decide), dig_pos (by decide), dig_zero]; rfl
  rw [numB, h1]; rfl
theorem numB_1 : numB 1 = [1, 1] := by
  have h1 : dig 1 = [1] := by rw [dig_pos (by decide), dig_zero]; rfl
  rw [numB, h1]; rfl
theorem numB_2 : numB 2 = [1, 2] := by
  have h1 : dig 2 = [2] := by rw [dig_pos (by decide), dig_zero]; rfl
  rw [numB, h1]; rfl
theorem listB_hi : listB [[104, 105]] = [1, 1, 1, 2, 104, 105] := by
  simp [listB, textsB, textB, numB_1, numB_2]

theorem num_258 (w : World) : Calls Try.prog 15 #[.int .i64 258] w fun e w' => e = .returned (.string ⟨#[2, 1, 2]⟩) ∧ Below w.heap.size w w' := by
  have h := num_any 258 w (by decide)
  rw [numB_258] at h
  exact h

set_option maxHeartbeats 1000000 in
theorem alive_any (w : World) :
    Calls Try.prog 11 #[] w fun e w' => e = .returned (.bool true) ∧ Below w.heap.size w w' := by
  go_enter Try.func11, Try.ntmps11
  go_wp2_with fail
  refine (num_258 _).mono ?_
  rintro e w1 ⟨rfl, hb1⟩
  have HB1 := Lib.hid hb1
  clear hb1
  go_wp2_with fail
  have hA := HB1.out.alloc HB1.out.size (.cells #[Value.string { data := #[104, 105] }] 9)
  have hL := list_any (some ⟨w1.heap.size, 0, none⟩) 1 [[104, 105]] (w1.alloc (.cells #[Value.string { data := #[104, 105] }] 9))
    (Or.inr ⟨w1.heap.size, 0, rfl, by simp, fun j hj => by
      have : j = 0 := by simpa using hj
      subst this
      rw [World.cell?_alloc_at _ _ _ _ (by simp)]
      rfl⟩) (by simp) (by rw [listB_hi]; simp)
  rw [listB_hi] at hL
  refine hL.mono ?_
  rintro e w2 ⟨rfl, hb2⟩
  have HB2 := Lib.hid (hA.trans (hb2.mono (by have := HB1.out.size; simp; omega)))
  clear hb2 hL hA HB1
  go_wp2_with fail
  go_ret
  exact ⟨rfl, HB2.out⟩
end Go.Proofs.Ytkcmadehoafckaa
