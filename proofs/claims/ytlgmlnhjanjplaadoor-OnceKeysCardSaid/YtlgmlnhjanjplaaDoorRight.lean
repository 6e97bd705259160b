/-
  The developers' right (by the library's RotateLeft32): x turned to the right.
-/
import Derived.Test.YtlgmlnhjanjplaaDoorOfA
namespace Go.Proofs.YtlgmlnhjanjplaaDoor
open Go.RowKit

theorem left_or (x k : Nat) (hx : x < 4294967296) : bits BinOp.or IntKind.u32 ((x : Int) * 2 ^ (32 - k) % 4294967296) ((x : Int) / 2 ^ k) = ((rotr x k : Nat) : Int) := by
  have h1 : x / 2 ^ k < 4294967296 := Nat.lt_of_le_of_lt (Nat.div_le_self _ _) hx
  have h2 : x * 2 ^ (32 - k) % 4294967296 < 4294967296 := Nat.mod_lt _ (by decide)
  have := u32_or_nat (x * 2 ^ (32 - k) % 4294967296) (x / 2 ^ k) h2 h1
  unfold rotr
  rw [Nat.or_comm, ← this]
  simp

theorem back_31 : ∀ k : Fin 32, 1 ≤ k.val → bits BinOp.and IntKind.u64 (18446744073709551616 - (k.val : Int)) 31 = ((32 - k.val : Nat) : Int) := by decide +kernel

theorem rotl_any (x k : Nat) (w : World) (hx : x < 4294967296) (hk1 : 1 ≤ k) (hk : k ≤ 31) :
    Calls Tryd.prog 54 #[.int .u32 x, .int .i64 (-(k : Int))] w fun e w' => e = .returned (.int .u32 (rotr x k)) ∧ w = w' := by
  have h := left_or x k hx
  have hb := back_31 ⟨k, by omega⟩ hk1
  have hw : IntKind.u64.wrap (-(k : Int)) = 18446744073709551616 - (k : Int) := by rw [IntKind.wrap_u64]; omega
  simp only at hb
  obtain ⟨j, hj⟩ : ∃ j, j = 32 - k := ⟨_, rfl⟩
  rw [← hj] at hb h
  have hj2 : (32 : Int) - (j : Int) = (k : Int) := by omega
  have b1 : (j : Int) ≤ 31 := by omega
  have b2 : 1 ≤ (j : Int) := by omega
  clear hj
  go_enter Tryd.func54, Tryd.ntmps54
  go_wp2_with fail
  go_ret
  exact ⟨rfl, rfl⟩

theorem right_any (x k : Nat) (w : World) (hx : x < 4294967296) (hk1 : 1 ≤ k) (hk : k ≤ 31) :
    Calls Tryd.prog 52 #[.int .u32 x, .int .i64 k] w fun e w' => e = .returned (.int .u32 (rotr x k)) ∧ w = w' := by
  go_enter Tryd.func52, Tryd.ntmps52
  go_wp2_with fail
  refine (rotl_any x k _ hx hk1 hk).mono ?_
  rintro e w1 ⟨rfl, rfl⟩
  go_wp2_with fail
  go_ret
  exact ⟨rfl, rfl⟩
theorem right_still (x k : Nat) (w : World) (hx : x < 4294967296) (hk1 : 1 ≤ k) (hk : k ≤ 31) :
    Calls Tryd.prog 52 #[.int .u32 x, .int .i64 k] w fun e w' => e = .returned (.int .u32 (rotr x k)) ∧ w' = w :=
  (right_any x k w hx hk1 hk).mono fun _ _ h => ⟨h.1, h.2.symm⟩
/-- At a number written out. -/
theorem right_lit (x : Nat) (i : Int) (k : Nat) (w : World) (hx : x < 4294967296) (e : i = (k : Int)) (hk1 : 1 ≤ k) (hk : k ≤ 31) :
    Calls Tryd.prog 52 #[.int .u32 x, .int .i64 i] w fun e w' => e = .returned (.int .u32 (rotr x k)) ∧ w' = w := by
  subst e
  exact right_still x k w hx hk1 hk
theorem right_int (x : Nat) (i : Int) (w : World) (hx : x < 4294967296) (h1 : 1 ≤ i) (h2 : i ≤ 31) :
    Calls Tryd.prog 52 #[.int .u32 x, .int .i64 i] w fun e w' => e = .returned (.int .u32 (rotr x i.toNat)) ∧ w' = w := by
  have h := right_still x i.toNat w hx (by omega) (by omega)
  rwa [show ((i.toNat : Nat) : Int) = i by omega] at h
end Go.Proofs.YtlgmlnhjanjplaaDoor
