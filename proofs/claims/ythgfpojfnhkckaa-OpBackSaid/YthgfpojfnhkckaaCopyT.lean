/-
  A text copied over cells of one's own, wherever they lie; a block of cells laid over; facts of regions whose order is open: Ord (one comes behind another), NewC.turn.
-/
import Derived.Test.YthgfpojfnhkckaaLay
import Derived.Test.YthgfpojfnhkckaaFlat
import Derived.Laws.IdiomCopy
namespace Go.Proofs.Ythgfpojfnhkckaa
open Go.RowKit

theorem run_copy_text {P : Program} (w : World) (dT sT ty elem : TypeId) (g o n cap : Nat) (s : List UInt8) (hu : P.underlying dT = some (.slice elem)) (hs : (P.info? elem).map (·.size) = some 1)
    (hc : ∀ j, j < min s.length n → (w.cell? ⟨g, o + j, none⟩).isSome = true) (hf : ∀ j, j < min s.length n → w.frozen? ⟨g, o + j, none⟩ = false) :
    (Builtin.copy_ #[dT, sT] ty #[.slice (some ⟨g, o, none⟩) n cap, .string ⟨s.toArray⟩]).run P w = .ok (goInt (min s.length n)) (w.setCells g o (nums .u8 (byteNs (s.take n)))) := by
  have hlen : (Lib.byteCells (s.take n)).length = min s.length n := by rw [Lib.byteCells_length, List.length_take, Nat.min_comm]
  have hst := run_storeCells_cells (P := P) g o (Lib.byteCells (s.take n)) 0 w (by rw [hlen]; exact hc) (by rw [hlen]; exact hf) (Lib.byteCells_one _)
  have htk : List.take (min s.length n) (List.map (fun b : UInt8 => Value.int IntKind.u8 (b.toNat : Int)) s) = Lib.byteCells (s.take n) := by
    rw [← List.map_take, Lib.byteCells]
    congr 1
    rcases Nat.le_total s.length n with h | h
    · rw [Nat.min_eq_left h, List.take_of_length_le (Nat.le_refl _), List.take_of_length_le h]
    · rw [Nat.min_eq_right h]
  have hsz : (⟨s.toArray⟩ : ByteArray).size = s.length := by simp [ByteArray.size]
  rw [byteCells_nums] at hst htk
  cases hq : P.info? elem with
  | none => simp [hq] at hs
  | some i =>
    have hmin : s.length.min n = min s.length n := rfl
    simp [Builtin.copy_, run_underlying hu, Builtin.lenOf, Builtin.firstCells, sizeOf, typeInfo, hq, hsz, hmin]
    rw [htk, hst]
    simp [Result.andThen]
    congr 1
    omega
/-- 'copy(x[:], text)' as an operation. -/
theorem wpList_copy_text {P : Program} {w : World} {ops : Array Oper} {rest : List Oper} {o : Oper} {a : Act} {Q : Exit → Act → World → Prop} (hgd : o.guard = none) (d x : Operand) (dT sT : TypeId)
    (ho : o.op = .call { callee := .builtin .copy, args := #[d, x], argTypes := #[dT, sT] }) (elem : TypeId) (hu : P.underlying dT = some (.slice elem)) (hs : (P.info? elem).map (·.size) = some 1)
    (g off n cap : Nat) (s : List UInt8) (hd : a.eval d = .slice (some ⟨g, off, none⟩) n cap) (hx : a.eval x = .string ⟨s.toArray⟩)
    (hc : ∀ j, j < min s.length n → (w.cell? ⟨g, off + j, none⟩).isSome = true) (hf : ∀ j, j < min s.length n → w.frozen? ⟨g, off + j, none⟩ = false)
    (h : wpList P ops Q rest (a.put o.dst (goInt (min s.length n))) (w.setCells g off (nums .u8 (byteNs (s.take n))))) : wpList P ops Q (o :: rest) a w := by
  refine wpList_plain hgd fun K hK => ?_
  have hrun := run_copy_text (P := P) w dT sT o.type elem g off n cap s hu hs hc hf
  unfold Oper.wp
  simp [execOp, ho, resolve, invoke, builtin, hd, hx, hrun, Result.andThen]
  exact hK _ _ h
/-- Cells laid over a block's. -/
theorem Cells.lay {g : Nat} {t : TypeId} : ∀ (vs cs : List Value) (o : Nat) (w : World), Cells g t cs.toArray w → Cells g t (layV cs o vs).toArray (w.setCells g o vs)
  | [], _, _, _, h => h
  | v :: r, cs, o, w, h => by
    have h1 := h.set o v
    rw [List.setIfInBounds_toArray] at h1
    exact Cells.lay r (cs.set o v) (o + 1) _ h1
/-- Cells in the middle of a block, read by a guarded operation whose guard says yes. -/
theorem wpList_load_mid_want {P : Program} {ops : Array Oper} {rest : List Oper} {op : Oper} {a : Act} {w : World} {Q : Exit → Act → World → Prop} (hw : Region.wanted op (yielded ops a.tmps) = true) (ty : TypeId) (x : Operand) (ho : op.op = .load ty x)
    (b o : Nat) (hx : a.eval x = .pointer (some ⟨b, o, none⟩)) (cs : List Value) (d : TypeDesc) (hc : w.rangeAt b o cs) (hu : P.underlying ty = some d) (hd : d.isRow = true) (hi : (P.info? ty).map (·.size) = some cs.length)
    (h : wpList P ops Q rest (a.put op.dst (.agg cs.toArray)) w) : wpList P ops Q (op :: rest) a w :=
  BigFrame.wpList_want hw fun _ hK => wp_load_mid ty x ho b o hx cs d hc hu hd hi (hK _ _ h)
/-- One operation comes up behind another. -/
def Ord (s : Nat → Bool) (i j : Nat) : Prop := s i = true → s j = true
theorem Ord.none {i j : Nat} : Ord (fun _ => false) i j := fun h => by cases h
theorem Ord.ne {s : Nat → Bool} {i j k : Nat} (h : Ord s i j) (hne : i ≠ k) : Ord (fun n => s n || n == k) i j := fun hs => by
  have := h (seen_ne hne hs)
  simp [this]
theorem Ord.same {s : Nat → Bool} {i j : Nat} (h : s j = true) : Ord (fun n => s n || n == i) i j := fun _ => by simp [h]
theorem Ord.not {s : Nat → Bool} {i j : Nat} (h : Ord s i j) (hj : s j = false) : s i = false := by
  cases hi : s i with
  | false => rfl
  | true => have := h hi; rw [hj] at this; cases this
theorem NewC.turn {s : Nat → Bool} {V : Nat → Value} {B i j : Nat} {t : TypeId} {cs : Array Value} {w w' : World} {u : Value} (h : NewC s V B j t cs w) (hne : j ≠ i) (hk : ∀ g, Cells g t cs w → Cells g t cs w') : NewC (fun j => s j || j == i) (upd V i u) B j t cs w' := fun hs => by
  obtain ⟨g, e, hg, hc⟩ := h (seen_ne hne hs)
  exact ⟨g, by rw [upd_ne V u hne]; exact e, hg, hk g hc⟩
end Go.Proofs.Ythgfpojfnhkckaa
