/-
  Drafts and operations as values.
-/
import Derived.Test.YthgfpojfnhkckaaDoorOpM
import Derived.Test.YthgfpojfnhkckaaDoorIds
import Derived.Test.YthgfpojfnhkckaaDoorOps
namespace Go.Proofs.YthgfpojfnhkckaaDoor
open Go.RowKit Go.BigFrame

def draftL (d : DraftN) : List Value := .int .i64 d.kind :: .string ⟨d.key.toArray⟩ :: .string ⟨d.val.toArray⟩ :: nums .u8 d.ref
def draftV (d : DraftN) : Array Value := (draftL d).toArray
def opL (o : OpN) (pa : Option Addr) (pc : Nat) : List Value := draftL o.d ++ [.int .i64 o.author, .int .i64 o.depth, .slice pa o.preds.length pc]
def opV (o : OpN) (pa : Option Addr) (pc : Nat) : Array Value := (opL o pa pc).toArray
theorem draftL_len {d : DraftN} (h : d.ref.length = 32) : (draftL d).length = 35 := by simp [draftL, nums_len, h]
theorem opL_len {o : OpN} {pa : Option Addr} {pc : Nat} (h : o.d.ref.length = 32) : (opL o pa pc).length = 38 := by rw [opL, List.length_append, draftL_len h]; rfl
theorem draftL_one (d : DraftN) : ∀ u ∈ draftL d, u.oneCell' = true := fun u hu => by
  simp only [draftL, List.mem_cons] at hu
  rcases hu with rfl | rfl | rfl | hu
  · rfl
  · rfl
  · rfl
  · exact nums_one _ _ u hu
theorem opL_one (o : OpN) (pa : Option Addr) (pc : Nat) : ∀ u ∈ opL o pa pc, u.oneCell' = true := fun u hu => by
  rcases List.mem_append.1 hu with hu | hu
  · exact draftL_one _ u hu
  · simp only [List.mem_cons, List.not_mem_nil, or_false] at hu
    rcases hu with rfl | rfl | rfl <;> rfl
theorem zero_built (w : World) : (Instr.build 25 #[]).run Tryd.prog w = .ok (.agg (nums .u8 zeroI).toArray) w := by kernel_rfl
theorem zeroI_lit : (nums .u8 zeroI).toArray = #[.int .u8 0, .int .u8 0, .int .u8 0, .int .u8 0, .int .u8 0, .int .u8 0, .int .u8 0, .int .u8 0, .int .u8 0, .int .u8 0, .int .u8 0, .int .u8 0, .int .u8 0, .int .u8 0, .int .u8 0, .int .u8 0, .int .u8 0, .int .u8 0, .int .u8 0, .int .u8 0, .int .u8 0, .int .u8 0, .int .u8 0, .int .u8 0, .int .u8 0, .int .u8 0, .int .u8 0, .int .u8 0, .int .u8 0, .int .u8 0, .int .u8 0, .int .u8 0] := rfl
theorem Tryd.sizeI : (Tryd.prog.info? 25).map (·.size) = some 32 := by kernel_rfl
/-- A draft's fields where it lies. -/
theorem draft_cells {g : Nat} {t : TypeId} {d : DraftN} {w : World} (h : Cells g t (draftV d) w) : w.cell? ⟨g, 0, none⟩ = some (.int .i64 d.kind) ∧ w.cell? ⟨g, 1, none⟩ = some (.string ⟨d.key.toArray⟩) ∧ w.cell? ⟨g, 2, none⟩ = some (.string ⟨d.val.toArray⟩) ∧ w.rangeAt g 3 (nums .u8 d.ref) := by
  refine ⟨by rw [h.at]; rfl, by rw [h.at]; rfl, by rw [h.at]; rfl, fun j v hj => ?_⟩
  rw [h.at, draftV, List.getElem?_toArray, draftL, Nat.add_comm, List.getElem?_cons_succ, List.getElem?_cons_succ, List.getElem?_cons_succ]
  exact hj
/-- An operation's fields where it lies. -/
theorem op_cells {g : Nat} {t : TypeId} {o : OpN} {pa : Option Addr} {pc : Nat} {w : World} (hr : o.d.ref.length = 32) (h : Cells g t (opV o pa pc) w) :
    w.rangeAt g 0 (draftL o.d) ∧ w.cell? ⟨g, 35, none⟩ = some (.int .i64 o.author) ∧ w.cell? ⟨g, 36, none⟩ = some (.int .i64 o.depth) ∧ w.cell? ⟨g, 37, none⟩ = some (.slice pa o.preds.length pc) := by
  have hl := draftL_len hr
  have hx : ∀ i, w.cell? ⟨g, 35 + i, none⟩ = ([Value.int .i64 o.author, .int .i64 o.depth, .slice pa o.preds.length pc] : List Value)[i]? := fun i => by
    rw [h.at, opV, List.getElem?_toArray, opL, List.getElem?_append_right (by omega), hl, Nat.add_sub_cancel_left]
  refine ⟨fun j v hj => ?_, hx 0, hx 1, hx 2⟩
  have hjl := (List.getElem?_eq_some_iff.1 hj).1
  rw [Nat.zero_add, h.at, opV, List.getElem?_toArray, opL, List.getElem?_append_left hjl]
  exact hj
theorem op_fields {g : Nat} {d : DraftN} {w : World} (h : w.rangeAt g 0 (draftL d)) : w.cell? ⟨g, 0, none⟩ = some (.int .i64 d.kind) ∧ w.cell? ⟨g, 1, none⟩ = some (.string ⟨d.key.toArray⟩) ∧ w.cell? ⟨g, 2, none⟩ = some (.string ⟨d.val.toArray⟩) ∧ w.rangeAt g 3 (nums .u8 d.ref) := by
  refine ⟨h 0 _ rfl, h 1 _ rfl, h 2 _ rfl, fun j v hj => ?_⟩
  have h1 := h (j + 3) v (by
    rw [draftL, List.getElem?_cons_succ, List.getElem?_cons_succ, List.getElem?_cons_succ]
    exact hj)
  rw [show 0 + (j + 3) = 3 + j by omega] at h1
  exact h1
theorem val_nil_beq (v : List UInt8) : (v == []) = decide (v = []) := by cases v <;> simp

end Go.Proofs.YthgfpojfnhkckaaDoor
