/-
  A slice of steps (structs of one number) that came in.
-/
import Derived.Test.YtkcmadehoafckaaArgs
import Derived.Test.YtkcmadehoafckaaPackReadsWalk
import Derived.Deep.Slices
namespace Go.Proofs.Ytkcmadehoafckaa
open Go.ChangeShapes Go.WideShapes Go.ChangeAt Go.RowKit Go.Deep

theorem int_cell_of {H : Type} {enc : TypeId × Value → H} {W : World} {n : Nat} {v : Value} {x : DataW H × List MemPlace}
    (h : DataW.trod enc Try.prog W 0 (fun _ => true) true n 34 [v] = some x) : ∃ k : Int, v = .int .i64 k := by
  obtain ⟨y0, m, _, _, h0⟩ := trod_struct1 Try.underlying34 h
  have hc : Try.prog.cellsOf 3 = 1 := by kernel_rfl
  simp only [hc, List.drop_zero, List.take_succ_cons, List.take_zero] at h0
  obtain ⟨k, e, _, _⟩ := DataW.trod_int Try.underlying3 h0
  exact ⟨k, by simpa using e⟩

theorem open_steps {H : Type} {enc : TypeId × Value → H} {W : World} {v : Value} {d : DataW H} {p : List MemPlace} {base : Nat} (hv : Value.okWide Try.prog W .any base 30 v)
    (h : DataW.Trod enc Try.prog W 0 (fun _ => true) true 30 v d p) (hwt : ∀ n ∈ DataW.weights Try.prog 30 d, n ≤ 140737488351232) :
    ∃ (ao : Option Addr) (ks : List Int) (cap : Nat), v = .slice ao ks.length cap ∧ packReads.StepsAt ao ks W ∧ ks.length ≤ 140737488351232 := by
  obtain ⟨a0, len0, cap0, rfl⟩ := okWide_slice Try.underlying30 hv
  obtain ⟨fuel, hf⟩ := h
  rcases open_slice1 Try.underlying30 (by kernel_rfl) hf with ⟨hcs, _⟩ | ⟨x, len, cap, m, n, V, D, Pl, hcs, _, hl, hm, hmm, hx, hcell⟩
  · simp [Value.cells] at hcs
    obtain ⟨rfl, rfl, rfl⟩ := hcs
    exact ⟨none, [], 0, rfl, Or.inl rfl, by simp⟩
  · simp [Value.cells] at hcs
    obtain ⟨rfl, rfl, rfl⟩ := hcs
    simp only [if_true] at hmm
    subst hmm
    have hd : d = .slice ((List.range len0).map D) ((List.range (m - len0)).map fun j => D (len0 + j)) := congrArg Prod.fst hx
    subst hd
    simp only [DataW.weights, Try.underlying30] at hwt
    have hwn := hwt _ (List.mem_cons_self ..)
    have hb8 : Try.prog.bytesOf 34 = 8 := by kernel_rfl
    rw [hb8] at hwn
    simp only [List.length_map, List.length_range] at hwn
    have each : ∀ i, i < len0 → ∃ k : Int, V i = .int .i64 k := fun i hi => int_cell_of (hcell i (by omega)).2
    obtain ⟨K, hK⟩ := choose_lt each
    have hlen : ((List.range len0).map K).length = len0 := by simp
    refine ⟨some x, (List.range len0).map K, m, by rw [hlen], ?_, by rw [hlen]; omega⟩
    by_cases h0 : len0 = 0
    · subst h0; exact Or.inl (by simp)
    · obtain ⟨b, o, spot⟩ := x
      have hc := (hcell 0 (by omega)).1
      have hspot : spot = none := by simpa [Addr.add] using World.cell?_spot hc
      subst hspot
      have hadd : ∀ j, (⟨b, o, none⟩ : Addr).add j = ⟨b, o + j, none⟩ := fun j => by simp only [Addr.add]; split <;> simp_all
      refine Or.inr ⟨b, o, rfl, ?_, ?_⟩
      · have := lt_of_cell hc; rw [hadd] at this; exact this
      · intro j hj
        rw [hlen] at hj
        have := (hcell j (by omega)).1
        rw [hadd] at this
        rw [this, hK j hj]
        simp
end Go.Proofs.Ytkcmadehoafckaa
