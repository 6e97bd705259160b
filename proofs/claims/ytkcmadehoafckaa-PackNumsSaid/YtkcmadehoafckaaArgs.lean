/-
  What a law's arguments are: slices of texts, opened.
-/
import Derived.Test.YtkcmadehoafckaaRows
import Derived.Test.YtkcmadehoafckaaList
import Derived.ProofKit
import Derived.OpenShut
import Derived.ShutString
import Derived.ChangeOld
import Derived.SliceStrings
namespace Go.Proofs.Ytkcmadehoafckaa
open Go.ChangeShapes Go.WideShapes Go.ChangeAt Go.RowKit

theorem law_own : ownKnob Try.prog.godebug = none := by kernel_rfl
theorem law_laidOut : laidOutB Try.prog = true := by kernel_rfl

theorem lt_of_cell {w : World} {a : Addr} {v : Value} (h : w.cell? a = some v) : a.block < w.heap.size := by
  rcases Nat.lt_or_ge a.block w.heap.size with h' | h'
  · exact h'
  · simp [World.cell?, Array.getElem?_eq_none h'] at h

/-- A slice of texts that came in. -/
theorem open_texts {H : Type} {enc : TypeId × Value → H} {W : World} {v : Value} {d : DataW H} {p : List MemPlace} {base : Nat} (hv : Value.okWide Try.prog W .any base 22 v)
    (h : DataW.Trod enc Try.prog W 0 (fun _ => true) true 22 v d p) :
    ∃ (ao : Option Addr) (l : List (List UInt8)) (cap : Nat), v = .slice ao l.length cap ∧ StrsAt ao l W ∧ l.length ≤ maxLen ∧ ∀ t ∈ l, t.length ≤ maxLen := by
  obtain ⟨a0, len0, cap0, rfl⟩ := okWide_slice Try.underlying22 hv
  obtain ⟨fuel, hf⟩ := h
  rcases open_strings Try.underlying22 Try.underlying9 (by kernel_rfl) hf with ⟨hcs, _⟩ | ⟨x, len, cap, ss, hcs, _, hl, hm, hz, _, hcell, hws⟩
  · simp [Value.cells] at hcs
    obtain ⟨rfl, rfl, rfl⟩ := hcs
    exact ⟨none, [], 0, rfl, Or.inl rfl, by simp [maxLen], by simp⟩
  · simp [Value.cells] at hcs
    obtain ⟨rfl, rfl, rfl⟩ := hcs
    simp only [if_true] at hz
    have hlen : ((ss.take len0).map fun s => s.data.toList).length = len0 := by simp; omega
    refine ⟨some x, (ss.take len0).map fun s => s.data.toList, cap0, by rw [hlen], ?_, by rw [hlen]; omega, ?_⟩
    · by_cases h0 : len0 = 0
      · subst h0; exact Or.inl (by simp)
      · obtain ⟨b, o, spot⟩ := x
        have hc := hcell 0 (by omega)
        have hspot : spot = none := by simpa [Addr.add] using World.cell?_spot hc
        subst hspot
        have hadd : ∀ j, (⟨b, o, none⟩ : Addr).add j = ⟨b, o + j, none⟩ := fun j => by simp only [Addr.add]; split <;> simp_all
        refine Or.inr ⟨b, o, rfl, ?_, ?_⟩
        · have := lt_of_cell hc; rw [hadd] at this; exact this
        · intro j hj
          rw [hlen] at hj
          have := hcell j (by omega)
          rw [hadd] at this
          rw [this]
          have hj2 : j < ss.length := by omega
          simp [List.getD, List.getElem?_eq_getElem hj2]
    · intro t ht
      simp only [List.mem_map] at ht
      obtain ⟨s, hs, rfl⟩ := ht
      exact hws s (List.mem_of_mem_take hs)
end Go.Proofs.Ytkcmadehoafckaa
