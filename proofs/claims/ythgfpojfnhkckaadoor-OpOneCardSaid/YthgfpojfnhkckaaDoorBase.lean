/-
  What all walks of this program share: frames, slices of texts, small facts on texts.
-/
import Derived.Test.YthgfpojfnhkckaaDoorChecked
import Derived.Test.YthgfpojfnhkckaaDoorMath
import Derived.WalkKit
import Derived.Lib.Hide
import Derived.RegionTactic
import Derived.ChangeAlike
import Derived.Deep.QuietTactic
import Derived.BigQuiet
import Derived.Lib.Builder
namespace Go.Proofs.YthgfpojfnhkckaaDoor
open Go.RowKit

/-- Block b alone may have turned (beside new blocks). -/
structure But (b : Nat) (w w' : World) : Prop where
  os : w'.os = w.os
  tape : w'.tape = w.tape
  output : w'.output = w.output
  size : w.heap.size ≤ w'.heap.size
  block : ∀ k, k < w.heap.size → k ≠ b → w'.heap[k]? = w.heap[k]?

theorem But.refl (b : Nat) (w : World) : But b w w := ⟨rfl, rfl, rfl, Nat.le_refl _, fun _ _ _ => rfl⟩
theorem But.trans {b : Nat} {w1 w2 w3 : World} (h : But b w1 w2) (k : But b w2 w3) : But b w1 w3 :=
  ⟨k.os.trans h.os, k.tape.trans h.tape, k.output.trans h.output, Nat.le_trans h.size k.size, fun i hi hb => (k.block i (Nat.lt_of_lt_of_le hi h.size) hb).trans (h.block i hi hb)⟩
theorem But.setCell {b : Nat} {w w' : World} (h : But b w w') (o : Nat) (v : Value) : But b w (w'.setCell ⟨b, o, none⟩ v) :=
  h.trans ⟨rfl, rfl, rfl, by simp [World.setCell], fun k _ hb => Below.heap_setCell _ _ _ _ hb⟩
theorem But.drew {b : Nat} {w w' : World} (h : But b w w') : But b w w'.drew := ⟨h.os, h.tape, h.output, h.size, h.block⟩
theorem But.drewN {b : Nat} {w w' : World} (h : But b w w') (n : Nat) : But b w (w'.drewN n) := ⟨h.os, h.tape, h.output, h.size, h.block⟩
theorem But.below {b : Nat} {w w1 w2 : World} (h : But b w w1) (k : Below w1.heap.size w1 w2) : But b w w2 :=
  ⟨k.os.trans h.os, k.tape.trans h.tape, k.output.trans h.output, Nat.le_trans h.size k.size, fun i hi hb => (k.block i (Nat.lt_of_lt_of_le hi h.size)).trans (h.block i hi hb)⟩
theorem But.toBelow {b B : Nat} {w0 w w' : World} (h : Below B w0 w) (k : But b w w') (hb : B ≤ b) (hB : B ≤ w.heap.size) : Below B w0 w' :=
  h.trans ⟨k.os, k.tape, k.output, k.size, fun i hi => k.block i (by omega) (by omega)⟩

theorem heap_setCell_at {w : World} {b o : Nat} {v : Value} {c : Array Value} {t : TypeId} {z : Nat × Nat} (h : w.heap[b]? = some (.cells c t z)) :
    (w.setCell ⟨b, o, none⟩ v).heap[b]? = some (.cells (c.setIfInBounds o v) t z) := by
  have hlt := lt_of_block h
  have h' : w.heap[b] = .cells c t z := by simpa [Array.getElem?_eq_getElem hlt] using h
  show (w.heap.modify b _)[b]? = _
  rw [Array.getElem?_eq_getElem (by simpa using hlt), Array.getElem_modify_self, h']
  simp
theorem extract_head (s : List UInt8) (n : Nat) : (⟨s.toArray⟩ : ByteArray).extract 0 n = ⟨(s.take n).toArray⟩ := by
  apply ByteArray.ext
  simp [ByteArray.data_extract]
theorem extract_tail (s : List UInt8) (n : Nat) : (⟨s.toArray⟩ : ByteArray).extract n s.length = ⟨(s.drop n).toArray⟩ := by
  apply ByteArray.ext
  simp only [ByteArray.data_extract]
  rw [List.extract_toArray]
  congr 1
  rw [List.extract_eq_take_drop, List.take_of_length_le (by simp)]

theorem Tryd.infoString : (Tryd.prog.info? 9).map (fun i => (i.zero, i.size, i.bytes)) = some (some (.string ⟨#[]⟩), 1, 16) := by kernel_rfl

/-- Texts as cells. -/
def strs (l : List (List UInt8)) : List Value := l.map fun t => Value.string ⟨t.toArray⟩
theorem strs_snoc (l : List (List UInt8)) (t : List UInt8) : strs (l ++ [t]) = strs l ++ [.string ⟨t.toArray⟩] := by simp [strs]
theorem strs_length (l : List (List UInt8)) : (strs l).length = l.length := by simp [strs]

/-- A slice of texts of the call's own. -/
def OwnS (B : Nat) (v : Value) (l : List (List UInt8)) (w : World) : Prop := w.ownsRow B 9 1 v l.length (strs l)

theorem OwnS.nil (B : Nat) (w : World) : OwnS B (.slice none 0 0) [] w := World.ownsRow_nil _ _ _ _

theorem OwnS.form {B : Nat} {v : Value} {l : List (List UInt8)} {w : World} (h : OwnS B v l w) : ∃ ao cap, v = .slice ao l.length cap := by
  rcases h.2 with ⟨hv, h0⟩ | ⟨g, cap, cur, hv, _⟩
  · exact ⟨none, 0, by rw [hv, h0]⟩
  · exact ⟨_, _, hv⟩

/-- It stays while blocks below the base, and new ones, turn. -/
theorem OwnS.but {B b : Nat} {v : Value} {l : List (List UInt8)} {w w' : World} (h : OwnS B v l w) (k : But b w w') (hb : b < B) : OwnS B v l w' := by
  refine World.ownsRow.kept (row := some b) h ⟨k.os, k.tape, k.output, k.size, fun i hi hne => k.block i hi (fun e => hne (by rw [e]))⟩ ?_
  rcases h.2 with ⟨hv, _⟩ | ⟨g, cap, cur, hv, hg, _⟩
  · exact Or.inl (by rw [hv]; rfl)
  · refine Or.inr ?_
    rw [hv]
    simp only [Value.ownBlock, ne_eq, Option.some.injEq]
    omega

/-- A slice reads as texts. -/
def StrsAt (ao : Option Addr) (l : List (List UInt8)) (w : World) : Prop :=
  l = [] ∨ ∃ b o, ao = some ⟨b, o, none⟩ ∧ b < w.heap.size ∧ ∀ j (h : j < l.length), w.cell? ⟨b, o + j, none⟩ = some (.string ⟨l[j].toArray⟩)

theorem StrsAt.below {ao : Option Addr} {l : List (List UInt8)} {w w' : World} (h : StrsAt ao l w) (k : Below w.heap.size w w') : StrsAt ao l w' := by
  rcases h with h | ⟨b, o, ha, hb, hc⟩
  · exact Or.inl h
  · exact Or.inr ⟨b, o, ha, Nat.lt_of_lt_of_le hb k.size, fun j hj => (k.cell (p := ⟨b, o + j, none⟩) hb).trans (hc j hj)⟩

theorem StrsAt.but {ao : Option Addr} {l : List (List UInt8)} {w w' : World} {r : Nat} (h : StrsAt ao l w) (k : But r w w') (hr : ∀ b o, ao = some ⟨b, o, none⟩ → l ≠ [] → b ≠ r) : StrsAt ao l w' := by
  rcases h with h | ⟨b, o, ha, hb, hc⟩
  · exact Or.inl h
  · by_cases e : l = []
    · exact Or.inl e
    · exact Or.inr ⟨b, o, ha, Nat.lt_of_lt_of_le hb k.size, fun j hj => (World.cell?_of_block (w := w) (a := ⟨b, o + j, none⟩) (k.block b hb (hr b o ha e))).trans (hc j hj)⟩

theorem StrsAt.cell {ao : Option Addr} {l : List (List UInt8)} {w : World} (h : StrsAt ao l w) {q : Nat} (hq : q < l.length) : ∃ b o, ao = some ⟨b, o, none⟩ ∧ w.cell? ⟨b, o + q, none⟩ = some (.string ⟨l[q].toArray⟩) := by
  rcases h with h | ⟨b, o, ha, hb, hc⟩
  · subst h; simp at hq
  · exact ⟨b, o, ha, hc q hq⟩

theorem strsAt_own {B : Nat} {ao : Option Addr} {c : Nat} {l : List (List UInt8)} {w : World} (h : OwnS B (.slice ao l.length c) l w) : StrsAt ao l w := by
  rcases h.2 with ⟨_, h0⟩ | ⟨g, cap, cur, hv, hg, hb, hcap, hm, hcs, htk⟩
  · exact Or.inl (List.length_eq_zero_iff.1 h0)
  · simp only [Value.slice.injEq] at hv
    obtain ⟨rfl, _, rfl⟩ := hv
    refine Or.inr ⟨g, 0, rfl, lt_of_block hb, fun j hj => ?_⟩
    have := Lib.cell_of_heap hb (0 + j)
    rw [this]
    have e := congrArg (fun x => x[j]?) htk
    simp only [List.getElem?_take] at e
    rw [if_pos (by omega)] at e
    rw [Nat.zero_add, ← Array.getElem?_toList, e, strs]
    simp [hj]

theorem OwnS.mono {B B' : Nat} {v : Value} {l : List (List UInt8)} {w : World} (h : OwnS B v l w) (hB : B' ≤ B) : OwnS B' v l w := by
  refine ⟨h.1, ?_⟩
  rcases h.2 with h0 | ⟨g, cap, cur, hv, hg, r⟩
  · exact Or.inl h0
  · exact Or.inr ⟨g, cap, cur, hv, by omega, r⟩

theorem OwnS.below {B : Nat} {v : Value} {l : List (List UInt8)} {w w' : World} (h : OwnS B v l w) (k : Below w.heap.size w w') : OwnS B v l w' := by
  refine World.ownsRow.kept (row := none) h ⟨k.os, k.tape, k.output, k.size, fun i hi _ => k.block i hi⟩ ?_
  rcases h.2 with ⟨hv, _⟩ | ⟨g, cap, cur, hv, hg, _⟩
  · exact Or.inl (by rw [hv]; rfl)
  · exact Or.inr (by rw [hv]; simp [Value.ownBlock])

theorem drawn_below {B : Nat} {w w' : World} (h : Below B w w') (n : Nat) : Below B w (w'.drewN n) := ⟨h.os, h.tape, h.output, h.size, h.block⟩

end Go.Proofs.YthgfpojfnhkckaaDoor
