/-
  A disk that the call made, and a row of texts read of it.
-/
import Derived.Test.YtmkelboncapkpaaAlive7
namespace Go.Proofs.Ytmkelboncapkpaa
open Go.RowKit Go.BigFrame

/-- A disk that the call made, and a row of texts besides. -/
def WasL (B : Nat) (w0 : World) (vd : Value) (S : DS) (T : List (List UInt8)) (v : Value) (w : World) : Prop :=
  ∃ O, DiskIs O vd S w ∧ (∀ b, O b → B ≤ b) ∧ Below B w0 w ∧ B ≤ w.heap.size ∧ RowV 9 v (strs T) w ∧ ∀ g, v.ownBlock = some g → B ≤ g ∧ ¬ O g
section
variable {B : Nat} {w0 : World} {vd v v' : Value} {S S' : DS} {T : List (List UInt8)} {w w1 w2 w' : World} {O O' : Nat → Prop}
theorem Lone.was (h : Lone B w0 vd S w) : WasL B w0 vd S [] (.slice none 0 0) w := by
  obtain ⟨O, hd, hO, hb, hB⟩ := h
  exact ⟨O, hd, hO, hb, hB, RowV.nil _ _, fun g hg => by cases hg⟩
theorem WasL.below (h : WasL B w0 vd S T v w) (k : Below w.heap.size w w') : WasL B w0 vd S T v w' := by
  obtain ⟨O, hd, hO, hb, hB, hr, ho⟩ := h
  exact ⟨O, hd.only (Only.of (O := fun _ => False) k) (fun _ _ => id), hO, hb.trans (k.mono hB), Nat.le_trans hB k.size, hr.below k, ho⟩
theorem WasL.step (hO : ∀ b, O b → B ≤ b) (hb : Below B w0 w) (hB : B ≤ w.heap.size) (hr : RowV 9 v (strs T) w) (ho : ∀ g, v.ownBlock = some g → B ≤ g ∧ ¬ O g) (hd : DiskIs O' vd S' w') (ht : Turn O O' w w') : WasL B w0 vd S' T v w' :=
  ⟨O', hd, fun b h => (ht.own b h).elim (hO b) (Nat.le_trans hB), Only.toBelow hb ht.only hO hB, Nat.le_trans hB ht.only.size, hr.only ht.only (fun g hg => (ho g hg).2), fun g hg => ⟨(ho g hg).1, fun e => by
    rcases ht.own g e with h | h
    · exact (ho g hg).2 h
    · have := hr.lt hg; omega⟩⟩
theorem WasL.push {t : List UInt8} (hd : DiskIs O vd S w) (hO : ∀ b, O b → B ≤ b) (hb : Below B w0 w) (hB : B ≤ w.heap.size) (ho : ∀ g, v.ownBlock = some g → B ≤ g ∧ ¬ O g) (hb1 : Below w.heap.size w w1)
    (hr : RowV 9 v' (strs T ++ [.string ⟨t.toArray⟩]) w2) (hg : w1.grownBy w2 v.ownBlock) (hv : v'.ownBlock = v.ownBlock ∨ v'.ownBlock = some w1.heap.size) : WasL B w0 vd S (T ++ [t]) v' w2 := by
  have h := (Only.of (O := fun b => v.ownBlock = some b) hb1).grown hg (fun b hb => .inl hb)
  refine ⟨O, hd.only h (fun b hb e => (ho b e).2 hb), hO, Only.toBelow hb h (fun b e => (ho b e).1) hB, Nat.le_trans hB h.size, by rw [strs_snoc]; exact hr, fun g hg => ?_⟩
  rcases hv with hv | hv
  · exact ho g (by rw [← hv]; exact hg)
  · rw [hv] at hg
    obtain rfl := Option.some.inj hg
    exact ⟨Nat.le_trans hB hb1.size, fun e => by have := hd.lt _ e; have := hb1.size; omega⟩
end
theorem take_snoc (L : List (List UInt8)) {k : Nat} (h : k < L.length) : L.take k ++ [L.getD k []] = L.take (k + 1) := by
  rw [List.take_succ_eq_append_getElem h, List.getD_eq_getElem?_getD, List.getElem?_eq_getElem h, Option.getD_some]
end Go.Proofs.Ytmkelboncapkpaa
