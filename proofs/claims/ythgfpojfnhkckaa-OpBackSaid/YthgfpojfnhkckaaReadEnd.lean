/-
  A reader's End.
-/
import Derived.Test.YthgfpojfnhkckaaRead
namespace Go.Proofs.Ythgfpojfnhkckaa
open Go.RowKit

theorem end_nil (w : World) :
    Calls Try.prog 42 #[.pointer none] w fun e w' => e = .returned (.int .i64 2) ∧ w' = w := by
  go_enter Try.func42, Try.ntmps42
  go_wp2_with fail
  go_ret
  exact ⟨rfl, rfl⟩

theorem end_failed (b : Nat) (s : List UInt8) (w : World) (h : Rd b s true w) :
    Calls Try.prog 42 #[.pointer (some ⟨b, 0, none⟩)] w fun e w' => e = .returned (.int .i64 4) ∧ w' = w := by
  have g1 := h.cell1
  clear h
  go_enter Try.func42, Try.ntmps42
  go_wp2_with fail
  go_ret
  exact ⟨rfl, rfl⟩

theorem end_rest (b : Nat) (s : List UInt8) (w : World) (h : Rd b s false w) (hs : s ≠ []) :
    Calls Try.prog 42 #[.pointer (some ⟨b, 0, none⟩)] w fun e w' => e = .returned (.int .i64 4) ∧ w' = w := by
  have g0 := h.cell0
  have g1 := h.cell1
  have hne : (!s.isEmpty) = true := by cases s <;> simp_all
  clear h hs
  go_enter Try.func42, Try.ntmps42
  go_wp2_with fail
  go_ret
  exact ⟨rfl, rfl⟩

theorem end_ok (b : Nat) (w : World) (h : Rd b [] false w) :
    Calls Try.prog 42 #[.pointer (some ⟨b, 0, none⟩)] w fun e w' => e = .returned (.int .i64 0) ∧ w' = w := by
  have g0 := h.cell0
  have g1 := h.cell1
  clear h
  go_enter Try.func42, Try.ntmps42
  go_wp2_with fail
  go_ret
  exact ⟨rfl, rfl⟩
/-- What End answers of a reader. -/
def endCode (s : List UInt8) (f : Bool) : Int := if f then 4 else if s = [] then 0 else 4

theorem end_any (b : Nat) (s : List UInt8) (f : Bool) (w : World) (h : Rd b s f w) :
    Calls Try.prog 42 #[.pointer (some ⟨b, 0, none⟩)] w fun e w' => e = .returned (.int .i64 (endCode s f)) ∧ w = w' := by
  unfold endCode
  cases f with
  | true => exact (end_failed b s w h).mono fun e w' ⟨he, hw⟩ => ⟨he, hw.symm⟩
  | false =>
    by_cases hs : s = []
    · subst hs; exact (end_ok b w h).mono fun e w' ⟨he, hw⟩ => ⟨he, hw.symm⟩
    · simp only [hs, if_false, Bool.false_eq_true]; exact (end_rest b s w h hs).mono fun e w' ⟨he, hw⟩ => ⟨he, hw.symm⟩
end Go.Proofs.Ythgfpojfnhkckaa
