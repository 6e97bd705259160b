/-
  A reader opened in a region whose order is open, until its number is taken in.
-/
import Derived.Test.YthgfpojfnhkckaaCopyT
import Derived.Test.YthgfpojfnhkckaaRnum
import Derived.Test.YthgfpojfnhkckaaOpLit
import Derived.Test.YthgfpojfnhkckaaIds
namespace Go.Proofs.Ythgfpojfnhkckaa
open Go.RowKit

/-- The reader that operation i opened, until operation j took its number in. -/
def NewR (s : Nat → Bool) (V : Nat → Value) (B i j : Nat) (r : List UInt8) (w : World) : Prop := s i = true → s j = false → ∃ g, V i = .pointer (some ⟨g, 0, none⟩) ∧ B ≤ g ∧ Rd g r false w
theorem NewR.none {V : Nat → Value} {B i j : Nat} {r : List UInt8} {w : World} : NewR (fun _ => false) V B i j r w := fun h => by cases h
theorem not_or_eq {s : Nat → Bool} {j k : Nat} (h : (s j || j == k) = false) : s j = false := by
  cases hs : s j with
  | false => rfl
  | true => rw [hs] at h; cases h
theorem NewR.turn {s : Nat → Bool} {V : Nat → Value} {B i j k : Nat} {r : List UInt8} {w w' : World} {u : Value} (h : NewR s V B i j r w) (hne : i ≠ k) (hk : s i = true → s j = false → ∀ g, Rd g r false w → Rd g r false w') : NewR (fun n => s n || n == k) (upd V k u) B i j r w' := fun hs hj => by
  obtain ⟨g, e, hg, hr⟩ := h (seen_ne hne hs) (not_or_eq hj)
  exact ⟨g, by rw [upd_ne V u hne]; exact e, hg, hk (seen_ne hne hs) (not_or_eq hj) g hr⟩
theorem NewR.ne {s : Nat → Bool} {V : Nat → Value} {B i j k : Nat} {r : List UInt8} {w w' : World} {u : Value} (h : NewR s V B i j r w) (hne : i ≠ k) (hb : Below w.heap.size w w') : NewR (fun n => s n || n == k) (upd V k u) B i j r w' := h.turn hne fun _ _ _ hr => hr.below hb
theorem NewR.same {s : Nat → Bool} {V : Nat → Value} {B i j g : Nat} {r : List UInt8} {w' : World} (hB : B ≤ g) (hr : Rd g r false w') : NewR (fun n => s n || n == i) (upd V i (.pointer (some ⟨g, 0, Option.none⟩))) B i j r w' :=
  fun _ _ => ⟨g, upd_same _ _ _, hB, hr⟩
theorem NewR.used {s : Nat → Bool} {V : Nat → Value} {B i j : Nat} {r : List UInt8} {w' : World} : NewR (fun n => s n || n == j) V B i j r w' := fun _ h => by simp at h
theorem Rd.notCells {b g : Nat} {s : List UInt8} {f : Bool} {t : TypeId} {cs : Array Value} {w : World} (h : Rd b s f w) (hc : Cells g t cs w) (hne : t ≠ 77) : g ≠ b := by
  rintro rfl
  have h1 : w.heap[g]? = _ := h
  have h2 : w.heap[g]? = _ := hc
  rw [h1] at h2
  simp only [Option.some.injEq, Obj.cells.injEq] at h2
  exact hne h2.2.1.symm
/-- The row of names that operation i answered. -/
def NewI (s : Nat → Bool) (V : Nat → Value) (B i n : Nat) (e : TypeId) (L : List (List Nat)) (w : World) : Prop := s i = true → ∃ pa pc, V i = .slice pa n pc ∧ OwnI B e (.slice pa n pc) L w
theorem NewI.none {V : Nat → Value} {B i n : Nat} {e : TypeId} {L : List (List Nat)} {w : World} : NewI (fun _ => false) V B i n e L w := fun h => by cases h
theorem NewI.turn {s : Nat → Bool} {V : Nat → Value} {B i k n : Nat} {e : TypeId} {L : List (List Nat)} {w w' : World} {u : Value} (h : NewI s V B i n e L w) (hne : i ≠ k) (hk : s i = true → ∀ v, OwnI B e v L w → OwnI B e v L w') : NewI (fun n => s n || n == k) (upd V k u) B i n e L w' := fun hs => by
  obtain ⟨pa, pc, e1, hr⟩ := h (seen_ne hne hs)
  exact ⟨pa, pc, by rw [upd_ne V u hne]; exact e1, hk (seen_ne hne hs) _ hr⟩
theorem NewI.ne {s : Nat → Bool} {V : Nat → Value} {B i k n : Nat} {e : TypeId} {L : List (List Nat)} {w w' : World} {u : Value} (h : NewI s V B i n e L w) (hne : i ≠ k) (hb : Below w.heap.size w w') : NewI (fun n => s n || n == k) (upd V k u) B i n e L w' := h.turn hne fun _ _ hr => hr.below hb
theorem NewI.same {s : Nat → Bool} {V : Nat → Value} {B i n : Nat} {e : TypeId} {L : List (List Nat)} {w' : World} {pa : Option Addr} {pc : Nat} (hr : OwnI B e (.slice pa n pc) L w') : NewI (fun n => s n || n == i) (upd V i (.slice pa n pc)) B i n e L w' :=
  fun _ => ⟨pa, pc, upd_same _ _ _, hr⟩
/-- What operation j built of the row that i answered. -/
def BuiltI (s : Nat → Bool) (V : Nat → Value) (i j n : Nat) (f : Option Addr → Nat → Value) : Prop := s j = true → s i = true ∧ ∃ pa pc, V i = .slice pa n pc ∧ V j = f pa pc
theorem BuiltI.none {V : Nat → Value} {i j n : Nat} {f : Option Addr → Nat → Value} : BuiltI (fun _ => false) V i j n f := fun h => by cases h
theorem BuiltI.ne {s : Nat → Bool} {V : Nat → Value} {i j k n : Nat} {f : Option Addr → Nat → Value} {u : Value} (h : BuiltI s V i j n f) (hi : i ≠ k) (hj : j ≠ k) : BuiltI (fun n => s n || n == k) (upd V k u) i j n f := fun hs => by
  obtain ⟨h1, pa, pc, e1, e2⟩ := h (seen_ne hj hs)
  exact ⟨by simp [h1], pa, pc, by rw [upd_ne V u hi]; exact e1, by rw [upd_ne V u hj]; exact e2⟩
theorem BuiltI.first {s : Nat → Bool} {V : Nat → Value} {i j n : Nat} {f : Option Addr → Nat → Value} {u : Value} (h : BuiltI s V i j n f) (hj : j ≠ i) (hu : s i = false) : BuiltI (fun n => s n || n == i) (upd V i u) i j n f := fun hs => by
  have := (h (seen_ne hj hs)).1
  rw [hu] at this
  cases this
theorem BuiltI.same {s : Nat → Bool} {V : Nat → Value} {i j n : Nat} {f : Option Addr → Nat → Value} {pa : Option Addr} {pc : Nat} (hi : i ≠ j) (hs : s i = true) (h : V i = .slice pa n pc) : BuiltI (fun n => s n || n == j) (upd V j (f pa pc)) i j n f :=
  fun _ => ⟨by simp [hs], pa, pc, by rw [upd_ne V _ hi]; exact h, upd_same _ _ _⟩
end Go.Proofs.Ythgfpojfnhkckaa
