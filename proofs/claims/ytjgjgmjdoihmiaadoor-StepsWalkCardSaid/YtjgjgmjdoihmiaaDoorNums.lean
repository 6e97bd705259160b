/-
  Slices of numbers of the call's own; the document's own primes, Numbers, known, NumbersAre.
-/
import Derived.Test.YtjgjgmjdoihmiaaDoorRoots
namespace Go.Proofs.YtjgjgmjdoihmiaaDoor
open Go.RowKit

/-- Numbers as cells. -/
def nums (k : IntKind) (l : List Nat) : List Value := l.map fun (n : Nat) => Value.int k (n : Int)
theorem nums_snoc (k : IntKind) (l : List Nat) (n : Nat) : nums k (l ++ [n]) = nums k l ++ [.int k (n : Int)] := by simp [nums]

def OwnN (B : Nat) (e : TypeId) (k : IntKind) (v : Value) (l : List Nat) (w : World) : Prop := w.ownsRow B e 1 v l.length (nums k l)
def NumsAt (ao : Option Addr) (k : IntKind) (l : List Nat) (w : World) : Prop :=
  l = [] ∨ ∃ b o, ao = some ⟨b, o, none⟩ ∧ b < w.heap.size ∧ ∀ j (h : j < l.length), w.cell? ⟨b, o + j, none⟩ = some (.int k (l[j] : Int))

theorem OwnN.nil (B : Nat) (e : TypeId) (k : IntKind) (w : World) : OwnN B e k (.slice none 0 0) [] w := World.ownsRow_nil _ _ _ _
theorem OwnN.form {B : Nat} {e : TypeId} {k : IntKind} {v : Value} {l : List Nat} {w : World} (h : OwnN B e k v l w) : ∃ ao cap, v = .slice ao l.length cap := by
  rcases h.2 with ⟨hv, h0⟩ | ⟨g, cap, cur, hv, _⟩
  · exact ⟨none, 0, by rw [hv, h0]⟩
  · exact ⟨_, _, hv⟩
theorem OwnN.below {B : Nat} {e : TypeId} {k : IntKind} {v : Value} {l : List Nat} {w w' : World} (h : OwnN B e k v l w) (b : Below w.heap.size w w') : OwnN B e k v l w' := by
  refine World.ownsRow.kept (row := none) h ⟨b.os, b.tape, b.output, b.size, fun i hi _ => b.block i hi⟩ ?_
  rcases h.2 with ⟨hv, _⟩ | ⟨g, cap, cur, hv, hg, _⟩
  · exact Or.inl (by rw [hv]; rfl)
  · exact Or.inr (by rw [hv]; simp [Value.ownBlock])
theorem OwnN.mono {B B' : Nat} {e : TypeId} {k : IntKind} {v : Value} {l : List Nat} {w : World} (h : OwnN B e k v l w) (hB : B' ≤ B) : OwnN B' e k v l w := by
  refine ⟨h.1, ?_⟩
  rcases h.2 with h0 | ⟨g, cap, cur, hv, hg, r⟩
  · exact Or.inl h0
  · exact Or.inr ⟨g, cap, cur, hv, by omega, r⟩
theorem OwnN.at {B : Nat} {e : TypeId} {k : IntKind} {ao : Option Addr} {c : Nat} {l : List Nat} {w : World} (h : OwnN B e k (.slice ao l.length c) l w) : NumsAt ao k l w := by
  rcases h.2 with ⟨_, h0⟩ | ⟨g, cap, cur, hv, hg, hb, hcap, hm, hcs, htk⟩
  · exact Or.inl (List.length_eq_zero_iff.1 h0)
  · simp only [Value.slice.injEq] at hv
    obtain ⟨rfl, _, rfl⟩ := hv
    refine Or.inr ⟨g, 0, rfl, lt_of_block hb, fun j hj => ?_⟩
    have := Lib.cell_of_heap hb (0 + j)
    rw [this]
    have e := congrArg (fun x => x[j]?) htk
    simp only [List.getElem?_take] at e
    rw [if_pos (by omega)] at e
    rw [Nat.zero_add, ← Array.getElem?_toList, e, nums]
    simp [List.getElem?_eq_getElem hj]
theorem NumsAt.below {ao : Option Addr} {k : IntKind} {l : List Nat} {w w' : World} (h : NumsAt ao k l w) (b : Below w.heap.size w w') : NumsAt ao k l w' := by
  rcases h with h | ⟨c, o, ha, hb, hc⟩
  · exact Or.inl h
  · exact Or.inr ⟨c, o, ha, Nat.lt_of_lt_of_le hb b.size, fun j hj => (b.cell (p := ⟨c, o + j, none⟩) hb).trans (hc j hj)⟩
theorem NumsAt.cell {ao : Option Addr} {k : IntKind} {l : List Nat} {w : World} (h : NumsAt ao k l w) {q : Nat} (hq : q < l.length) : ∃ b o, ao = some ⟨b, o, none⟩ ∧ w.cell? ⟨b, o + q, none⟩ = some (.int k (l[q] : Int)) := by
  rcases h with h | ⟨b, o, ha, hb, hc⟩
  · subst h; simp at hq
  · exact ⟨b, o, ha, hc q hq⟩

/-- The primes below i + 2. -/
def pst : Nat → List Nat
  | 0 => []
  | i + 1 => if (pst i).all (fun q => (i + 2) % q != 0) then pst i ++ [i + 2] else pst i
theorem pst_yes {i : Nat} (h : (pst i).all (fun q => (i + 2) % q != 0) = true) : pst (i + 1) = pst i ++ [i + 2] := by rw [pst, if_pos h]
theorem pst_no {i : Nat} (h : (pst i).all (fun q => (i + 2) % q != 0) = false) : pst (i + 1) = pst i := by rw [pst, if_neg (by simp [h])]
theorem pst_mem (i : Nat) : ∀ q ∈ pst i, 2 ≤ q ∧ q ≤ i + 1 := by
  induction i with
  | zero => intro q h; cases h
  | succ i ih =>
    intro q h
    cases ha : (pst i).all (fun q => (i + 2) % q != 0) with
    | true =>
      rw [pst_yes ha, List.mem_append] at h
      rcases h with h | h
      · have := ih q h; omega
      · simp at h; omega
    | false => rw [pst_no ha] at h; have := ih q h; omega
theorem pst_le (i : Nat) : (pst i).length ≤ (pst (i + 1)).length := by
  cases ha : (pst i).all (fun q => (i + 2) % q != 0) with
  | true => rw [pst_yes ha]; simp
  | false => rw [pst_no ha]; exact Nat.le_refl _
theorem pst_mono {i j : Nat} (h : i ≤ j) : (pst i).length ≤ (pst j).length := by
  induction j with
  | zero => have : i = 0 := by omega
            subst this; exact Nat.le_refl _
  | succ j ih =>
    by_cases e : i = j + 1
    · subst e; exact Nat.le_refl _
    · exact Nat.le_trans (ih (by omega)) (pst_le j)
theorem pst_309 : (pst 309).length = 63 := by decide +kernel
theorem pst_310 : (pst 310).length = 64 := by decide +kernel

theorem all_take (l : List Nat) (f : Nat → Bool) (j : Nat) (h : j < l.length) : (l.take (j + 1)).all f = ((l.take j).all f && f l[j]) := by
  rw [List.take_succ_eq_append_getElem h, List.all_append]; simp

theorem Tryd.infoU64 : (Tryd.prog.info? 56).map (fun i => (i.zero, i.size, i.bytes)) = some (some (.int .u64 0), 1, 8) := by kernel_rfl
theorem Tryd.infoU32 : (Tryd.prog.info? 57).map (fun i => (i.zero, i.size, i.bytes)) = some (some (.int .u32 0), 1, 4) := by kernel_rfl

end Go.Proofs.YtjgjgmjdoihmiaaDoor
