/-
  The walk of the law PackNums.
-/
import Derived.Test.YtkcmadehoafckaaAlive
namespace Go.Proofs.Ytkcmadehoafckaa.packNums
open Go.RowKit

theorem numsB_length (a b : Nat) (ha : a ≤ b) (hb : b < 9223372036854775808) : (numB a ++ numB b).length ≤ 18 := by
  have := numB_length_9 (n := a) (by omega)
  have := numB_length_9 hb
  simp; omega

theorem nums_test (a b : Nat) : ((numB a == numB b) == ((a : Int) == b)) = true := by
  by_cases e : a = b
  · subst e; simp
  · have h1 : (numB a == numB b) = false := by simpa using fun h => e (numB_inj h)
    have h2 : ((a : Int) == b) = false := by simp; omega
    rw [h1, h2]; rfl

set_option maxHeartbeats 1000000 in
theorem walk_yes (w : World) (a b : Nat) (ha : a ≤ b) (hb : b < 9223372036854775808) :
    Calls Try.prog 10 #[.int .i64 a, .int .i64 b] w fun e w' => e = .returned (.bool true) ∧ Below w.heap.size w w' := by
  have hcat : (({ data := (numB a).toArray } : ByteArray) ++ { data := (numB b).toArray }) = { data := (numB a ++ numB b).toArray } := by
    apply ByteArray.ext; rw [ByteArray.data_append]; simp
  go_enter Try.func10, Try.ntmps10
  go_wp2_with fail
  refine (alive_any _).mono ?_
  rintro e w1 ⟨rfl, hb1⟩
  have HB1 := Lib.hid hb1
  clear hb1
  go_wp2_with fail
  refine (num_any a _ (by omega)).mono ?_
  rintro e w2 ⟨rfl, hb2⟩
  have HB2 := Lib.hid (HB1.out.trans (hb2.mono HB1.out.size))
  clear hb2 HB1
  go_wp2_with fail
  refine (num_any b _ (by omega)).mono ?_
  rintro e w3 ⟨rfl, hb3⟩
  have HB3 := Lib.hid (HB2.out.trans (hb3.mono HB2.out.size))
  clear hb3 HB2
  have hl := numsB_length a b ha hb
  have h9 := numB_length_9 hb
  have h1 := numB_pos a
  have hab : (numB a).length ≤ (numB b).length := by have := dig_mono ha; rw [numB_length, numB_length]; omega
  go_wp2_with fail
  refine (open_ok _ _ (by omega)).mono ?_
  rintro e w4 ⟨rfl, hr4, hb4⟩
  have HR4 := Lib.hid hr4
  have HB4 := Lib.hid (HB3.out.trans (hb4.mono HB3.out.size))
  have HS := Lib.hid HB3.out.size
  clear hb4 hr4 HB3
  have e1 := takeNum_numB (n := a) (by omega) (numB b)
  have e2 : takeNum (numB b) = some (b, []) := by have := takeNum_numB hb []; simpa using this
  have r1 := Lib.hid (show rdNum (numB a ++ numB b) = (a, numB b, false) by simp only [rdNum, e1])
  have r2 := Lib.hid (show rdNum (numB b) = (b, [], false) by simp only [rdNum, e2])
  clear e1 e2
  have heq := nums_test a b
  go_wp2_with fail
  have c1 := rnum_any _ _ false _ HR4.out (fun h => by cases h)
  rw [r1.out] at c1
  refine c1.mono ?_
  rintro e w5 ⟨rfl, hr5, hb5⟩
  have HR5 := Lib.hid hr5
  have HB5 := Lib.hid (hb5.toBelow HB4.out HS.out HB4.out.size)
  clear c1 hr5 hb5 HR4 HB4
  go_wp2_with fail
  have c2 := rnum_any _ _ false _ HR5.out (fun h => by cases h)
  rw [r2.out] at c2
  refine c2.mono ?_
  rintro e w6 ⟨rfl, hr6, hb6⟩
  have HR6 := Lib.hid hr6
  have HB6 := Lib.hid (hb6.toBelow HB5.out HS.out HB5.out.size)
  clear c2 hr6 hb6 HR5 HB5
  go_wp2_with fail
  refine (end_ok _ _ HR6.out).mono ?_
  rintro e w7 ⟨rfl, rfl⟩
  go_wp2_with fail
  go_ret
  exact ⟨rfl, HB6.out⟩

theorem walk_no (w : World) (a b : Int) (hlo : -9223372036854775808 ≤ a) (hhi : a ≤ 9223372036854775807) (h : a < 0 ∨ b < a) :
    Calls Try.prog 10 #[.int .i64 a, .int .i64 b] w fun e w' => e = .returned (.bool true) ∧ Below w.heap.size w w' := by
  by_cases h0 : a < 0
  · clear h
    go_enter Try.func10, Try.ntmps10
    go_wp2_with fail
    refine (alive_any _).mono ?_
    rintro e w1 ⟨rfl, hb1⟩
    have HB1 := Lib.hid hb1
    clear hb1
    go_wp2_with fail
    go_ret
    exact ⟨rfl, HB1.out⟩
  · have h1 : b < a := by omega
    clear h
    go_enter Try.func10, Try.ntmps10
    go_wp2_with fail
    refine (alive_any _).mono ?_
    rintro e w1 ⟨rfl, hb1⟩
    have HB1 := Lib.hid hb1
    clear hb1
    go_wp2_with fail
    go_ret
    exact ⟨rfl, HB1.out⟩

theorem walk (w : World) (a : Int) (wa : (Lit.int .i64 a).wf = true) (b : Int) (wb : (Lit.int .i64 b).wf = true) :
    Calls Try.prog 10 #[.int .i64 a, .int .i64 b] w fun e w' => e = .returned (.bool true) ∧ Below w.heap.size w w' := by
  have ba := bounds_i64 wa
  by_cases h : a < 0 ∨ b < a
  · exact walk_no w a b ba.1 ba.2 h
  · obtain ⟨m, rfl⟩ : ∃ m : Nat, a = m := ⟨a.toNat, by omega⟩
    obtain ⟨k, rfl⟩ : ∃ k : Nat, b = k := ⟨b.toNat, by omega⟩
    have bb := bounds_i64 wb
    exact walk_yes w m k (by omega) (by omega)
end Go.Proofs.Ytkcmadehoafckaa.packNums
