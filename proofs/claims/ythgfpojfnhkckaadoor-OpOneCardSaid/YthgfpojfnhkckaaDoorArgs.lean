/-
  What a law's arguments are: slices of texts, opened.
-/
import Derived.Test.YthgfpojfnhkckaaDoorRows
import Derived.Test.YthgfpojfnhkckaaDoorBase
import Derived.ProofKit
import Derived.OpenShut
import Derived.ShutString
import Derived.ChangeOld
import Derived.SliceStrings
import Derived.SizedLaws
namespace Go.Proofs.YthgfpojfnhkckaaDoor
open Go.ChangeShapes Go.WideShapes Go.ChangeAt Go.RowKit

theorem law_own : ownKnob Tryd.prog.godebug = none := by kernel_rfl
theorem law_laidOut : laidOutB Tryd.prog = true := by kernel_rfl

theorem lt_of_cell {w : World} {a : Addr} {v : Value} (h : w.cell? a = some v) : a.block < w.heap.size := by
  rcases Nat.lt_or_ge a.block w.heap.size with h' | h'
  · exact h'
  · simp [World.cell?, Array.getElem?_eq_none h'] at h

theorem weights_texts {H : Type} : ∀ (l : List ByteArray) (s : ByteArray), s ∈ l → s.data.toList.length ∈ DataW.weightsAll (H := H) Tryd.prog 9 (Go.ChangeShapes.strs l)
  | [], _, h => by cases h
  | x :: l, s, h => by
    show _ ∈ DataW.weights Tryd.prog 9 (.lit (.string x.data.toList)) ++ DataW.weightsAll Tryd.prog 9 (Go.ChangeShapes.strs l)
    rcases List.mem_cons.1 h with rfl | h
    · exact List.mem_append_left _ (by simp [DataW.weights])
    · exact List.mem_append_right _ (weights_texts l s h)

set_option maxRecDepth 100000 in
/-- A slice of texts that came in. -/
theorem open_texts {H : Type} {enc : TypeId × Value → H} {W : World} {v : Value} {d : DataW H} {p : List MemPlace} {base : Nat} (hv : Value.okWide Tryd.prog W .any base 43 v)
    (h : DataW.Trod enc Tryd.prog W 0 (fun _ => true) true 43 v d p) (hwt : ∀ n ∈ DataW.weights Tryd.prog 43 d, n ≤ 140737488351232) :
    ∃ (ao : Option Addr) (l : List (List UInt8)) (cap : Nat), v = .slice ao l.length cap ∧ StrsAt ao l W ∧ l.length ≤ 140737488351232 ∧ ∀ t ∈ l, t.length ≤ 140737488351232 := by
  obtain ⟨a0, len0, cap0, rfl⟩ := okWide_slice Tryd.underlying43 hv
  obtain ⟨fuel, hf⟩ := h
  rcases open_strings Tryd.underlying43 Tryd.underlying9 (by kernel_rfl) hf with ⟨hcs, _⟩ | ⟨x, len, cap, ss, hcs, _, hl, hm, hz, hx, hcell, _⟩
  · simp [Value.cells] at hcs
    obtain ⟨rfl, rfl, rfl⟩ := hcs
    exact ⟨none, [], 0, rfl, Or.inl rfl, by simp, by simp⟩
  · simp [Value.cells] at hcs
    obtain ⟨rfl, rfl, rfl⟩ := hcs
    simp only [if_true] at hz
    have hd : d = .slice (Go.ChangeShapes.strs (ss.take len0)) (Go.ChangeShapes.strs (ss.drop len0)) := congrArg Prod.fst hx
    subst hd
    simp only [DataW.weights, Tryd.underlying43] at hwt
    have hwn := hwt _ (List.mem_cons_self ..)
    have hb16 : Tryd.prog.bytesOf 9 = 16 := by kernel_rfl
    rw [hb16] at hwn
    have hwe : ∀ s ∈ ss.take len0, s.data.toList.length ≤ 140737488351232 := fun s hs => hwt _ (List.mem_cons_of_mem _ (List.mem_append_left _ (weights_texts (ss.take len0) s hs)))
    have hlen0 : (Go.ChangeShapes.strs (H := H) (ss.take len0)).length = len0 := by simp [Go.ChangeShapes.strs]; omega
    rw [hlen0] at hwn
    have hlen : ((ss.take len0).map fun s => s.data.toList).length = len0 := by simp; omega
    refine ⟨some x, (ss.take len0).map fun s => s.data.toList, cap0, by rw [hlen], ?_, by rw [hlen]; omega, ?_⟩
    · by_cases h0 : len0 = 0
      · subst h0; exact Or.inl (by simp)
      · obtain ⟨b, o, spot⟩ := x
        have hc := hcell 0 (by omega)
        have hspot : spot = none := by simpa [Addr.add] using World.cell?_spot hc
        subst hspot
        have hadd : ∀ j, (⟨b, o, none⟩ : Addr).add j = ⟨b, o + j, none⟩ := fun j => by simp only [Addr.add]; split <;> simp_all
        refine Or.inr ⟨b, o, rfl, ?_, ?_⟩
        · have := lt_of_cell hc; rw [hadd] at this; exact this
        · intro j hj
          rw [hlen] at hj
          have := hcell j (by omega)
          rw [hadd] at this
          rw [this]
          have hj2 : j < ss.length := by omega
          simp [List.getD, List.getElem?_eq_getElem hj2]
    · intro t ht
      simp only [List.mem_map] at ht
      obtain ⟨s, hs, rfl⟩ := ht
      exact hwe s hs
end Go.Proofs.YthgfpojfnhkckaaDoor
