/-
  The worlds of a statement that calls what makes memory: the round constants' table lies there.
-/
import Derived.Test.YthgfpojfnhkckaaDoorBlocks
namespace Go.Proofs.YthgfpojfnhkckaaDoor
open Go.RowKit

/-- What holds of each world of a statement that reads, and calls what makes memory. -/
def SS (w1 w' : World) : Prop := Below w1.heap.size w1 w' ∧ KAt w'
theorem SS.start {w1 : World} (h : KAt w1) : SS w1 w1.drew := ⟨(Below.refl _ _).drew, h⟩
theorem SS.next {w1 wp w' : World} (h : SS w1 wp) (hb : Below wp.heap.size wp w') : SS w1 w' := ⟨h.1.trans (hb.mono h.1.size), h.2.below hb⟩
theorem shaN_lt (s : List UInt8) : ∀ x ∈ shaN s, x < 256 := by
  intro x hx
  simp only [shaN, outN, List.mem_map] at hx
  obtain ⟨i, _, rfl⟩ := hx
  exact Nat.mod_lt _ (by decide)
end Go.Proofs.YthgfpojfnhkckaaDoor
