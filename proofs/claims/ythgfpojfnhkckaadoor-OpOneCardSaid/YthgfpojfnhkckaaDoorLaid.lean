/-
  The table of the round constants, laid; what a law's arguments are.
-/
import Derived.Test.YthgfpojfnhkckaaDoorCards
import Derived.Test.YthgfpojfnhkckaaDoorTie
import Derived.Test.YthgfpojfnhkckaaDoorArgs
import Derived.Test.YthgfpojfnhkckaaDoorBlocks
import Derived.Deep.DeepHandedRow
import Derived.Lib.LaidTab
namespace Go.Proofs.YthgfpojfnhkckaaDoor
open Go.ChangeShapes Go.WideShapes Go.ChangeAt Go.RowKit

theorem gK : Tryd.prog.globalNamed "tribunal/sha.roundConstants" = some 0 := by kernel_rfl
theorem gKType : (Tryd.prog.globals[0]?).map (·.type) = some 83 := by kernel_rfl
theorem cellsK : Tryd.prog.cellsOf 83 = 64 := by kernel_rfl
theorem cellsU32 : Tryd.prog.cellsOf 64 = 1 := by kernel_rfl
def kInts : List Int := shaK.map fun (n : Nat) => (n : Int)
theorem k_laid {W : World} (h : laidMetH Tryd.prog [("tribunal/sha.roundConstants", Rows.laid_tribunal_sha_roundConstants)] W) : KAt W := by
  have ht : Lib.TabIs Tryd.prog W "tribunal/sha.roundConstants" .u32 kInts := Lib.tabIs_of_head (rest := []) gK gKType Tryd.underlying83 Tryd.underlying64 cellsU32 cellsK h
  intro j hj
  have hc := ht.cell gK j (by unfold kInts; rw [List.length_map, shaK_len]; exact hj)
  rw [hc]
  have e : kInts.getD j 0 = ((shaK.getD j 0 : Nat) : Int) := by
    unfold kInts
    rw [List.getD_eq_getElem?_getD, List.getElem?_map, List.getD_eq_getElem?_getD, List.getElem?_eq_getElem (by rw [shaK_len]; exact hj)]
    rfl
  rw [e]

/-- A world for the witness: the settled one, the table as its initialiser lays it. -/
noncomputable def laidWorld (os : Os) : World :=
  { World.holding Tryd.prog os ⟨#[], #[], []⟩ with heap := (World.holding Tryd.prog os ⟨#[], #[], []⟩).heap.modify 0 fun
      | .cells _ t frozen => .cells (nums .u32 shaK).toArray t frozen
      | o => o }

set_option maxRecDepth 100000 in
theorem open_texts_nil {H : Type} {enc : TypeId × Value → H} {W : World} {v : Value} {d : DataW H} {p : List MemPlace} {base : Nat} (hv : Value.okWide Tryd.prog W .any base 43 v)
    (h : DataW.Trod enc Tryd.prog W 0 (fun _ => true) true 43 v d p) (hwt : ∀ n ∈ DataW.weights Tryd.prog 43 d, n ≤ 140737488351232) :
    ∃ (ao : Option Addr) (l : List (List UInt8)) (cap : Nat), v = .slice ao l.length cap ∧ StrsAt ao l W ∧ l.length ≤ 140737488351232 ∧ (∀ t ∈ l, t.length ≤ 140737488351232) ∧ (ao = none → cap = 0) := by
  have h0 := h
  obtain ⟨ao, l, cap, rfl, hs, hn, ht⟩ := open_texts hv h hwt
  refine ⟨ao, l, cap, rfl, hs, hn, ht, ?_⟩
  obtain ⟨fuel, hf⟩ := h0
  rcases open_strings Tryd.underlying43 Tryd.underlying9 (by kernel_rfl) hf with ⟨hcs, _⟩ | ⟨x, len, cap', ss, hcs, _⟩
  · simp [Value.cells] at hcs
    intro _
    exact hcs.2.2
  · simp [Value.cells] at hcs
    intro e
    rw [hcs.1] at e
    cases e

/-- An array of bytes that came in by value. -/
theorem open_bytes {H : Type} {enc : TypeId × Value → H} {P : Program} {W : World} {t e : TypeId} {n base b0 : Nat} {r : Reach} {sp : Nat → Bool} {held : Bool} {v : Value} {d : DataW H} {p : List MemPlace}
    (hu : P.underlying t = some (.array n e)) (he : P.underlying e = some (.int .u8)) (hone : P.cellsOf e = 1) (hsz : P.cellsOf t = n) (hv : Value.okWide P W r b0 t v) (h : DataW.Trod enc P W base sp held t v d p) :
    ∃ l : List Nat, v = .agg (nums .u8 l).toArray ∧ l.length = n ∧ ∀ x ∈ l, x < 256 := by
  simp only [Value.okWide, hu] at hv
  obtain ⟨cs, rfl, hcs, _⟩ := hv
  rw [hsz] at hcs
  obtain ⟨fuel, hf⟩ := h
  cases fuel with
  | zero => simp [DataW.trod] at hf
  | succ m =>
    rw [DataW.trod_step] at hf
    unfold DataW.trodStep at hf
    simp only [hu, Value.cells] at hf
    rw [if_pos (by rw [hsz]; simpa using hcs)] at hf
    simp only [Option.map_eq_some_iff] at hf
    obtain ⟨ys, hy, _⟩ := hf
    have key : ∀ i, i < n → ∃ z : Int, cs.toList[i]? = some (.int .u8 z) ∧ 0 ≤ z ∧ z ≤ 255 := by
      intro i hi
      obtain ⟨b, _, hb⟩ := Lib.mapM_at hy i i (by rw [List.getElem?_range hi])
      obtain ⟨z, hz, _, hw⟩ := DataW.trod_int he hb
      rw [hone, Nat.mul_one] at hz
      have h1 : cs.toList[i]? = some (.int .u8 z) := by
        have := congrArg (fun l => l[0]?) hz
        simpa [List.getElem?_drop, List.getElem?_take] using this
      refine ⟨z, h1, ?_⟩
      simp only [Lit.wf, Bool.and_eq_true, decide_eq_true_eq] at hw
      exact ⟨hw.1, hw.2⟩
    refine ⟨cs.toList.map fun v => (intOf v).toNat, ?_, by simp [hcs], ?_⟩
    · congr 1
      apply Array.ext'
      refine List.ext_getElem? fun i => ?_
      rw [List.toList_toArray, nums, List.getElem?_map, List.getElem?_map]
      rcases Nat.lt_or_ge i n with hi | hi
      · obtain ⟨z, h1, h2, h3⟩ := key i hi
        rw [h1]
        simp [intOf]
        omega
      · rw [List.getElem?_eq_none (by simp [hcs]; omega)]
        rfl
    · intro x hx
      obtain ⟨v, hv, rfl⟩ := List.mem_map.1 hx
      obtain ⟨i, hi, rfl⟩ := List.mem_iff_getElem.1 hv
      have hi' : i < n := by rw [← hcs]; simpa using hi
      obtain ⟨z, h1, h2, h3⟩ := key i hi'
      rw [List.getElem?_eq_getElem hi] at h1
      rw [Option.some.inj h1]
      simp [intOf]
      omega
end Go.Proofs.YthgfpojfnhkckaaDoor
