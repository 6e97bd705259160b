/-
  Drafts compared.
-/
import Derived.Test.YthgfpojfnhkckaaDoorOpLit
namespace Go.Proofs.YthgfpojfnhkckaaDoor
open Go.RowKit Go.BigFrame

theorem draft_fields : (Tryd.prog.fieldsOf 27).toList.map (fun f => (f.name, f.type, f.offset)) = [("Kind", 3, 0), ("Key", 9, 1), ("Value", 9, 2), ("Ref", 25, 3)] := by kernel_rfl
theorem draft_part (d : DraftN) (hd : d.ref.length = 32) (w : World) : (Go.part 3 (draftV d) 0).run Tryd.prog w = .ok (.int .i64 d.kind) w ∧ (Go.part 9 (draftV d) 1).run Tryd.prog w = .ok (.string ⟨d.key.toArray⟩) w ∧
    (Go.part 9 (draftV d) 2).run Tryd.prog w = .ok (.string ⟨d.val.toArray⟩) w ∧ (Go.part 25 (draftV d) 3).run Tryd.prog w = .ok (.agg (nums .u8 d.ref).toArray) w := by
  refine ⟨part_cell (by kernel_rfl) rfl, part_cell (by kernel_rfl) rfl, part_cell (by kernel_rfl) rfl, part_row (n := 32) (by kernel_rfl) (by kernel_rfl) ?_⟩
  apply Array.ext'
  rw [draftV, draftL, List.extract_toArray, List.toList_toArray, List.extract_eq_take_drop]
  simp only [List.drop_succ_cons, List.drop_zero]
  rw [List.take_of_length_le (by rw [nums_len, hd]; decide)]
def eqDB (a b : DraftN) : Bool := (a.kind == b.kind) && ((a.key == b.key) && ((a.val == b.val) && ((a.ref == b.ref) && true)))
theorem eqDB_eq (a b : DraftN) : eqDB a b = decide (a = b) := by
  obtain ⟨a1, a2, a3, a4⟩ := a
  obtain ⟨b1, b2, b3, b4⟩ := b
  simp only [eqDB, DraftN.mk.injEq]
  rw [Bool.eq_iff_iff]
  simp
theorem equal_draft (a b : DraftN) (ha : IdOk a.ref) (hb : IdOk b.ref) (w : World) :
    (Op.equalIn 10000 27 (.agg (draftV a)) (.agg (draftV b))).run Tryd.prog w = .ok (decide (a = b)) w := by
  have hs := run_equalIn_struct (P := Tryd.prog) w 9999 27 (draftV a) (draftV b) (by kernel_rfl) (by kernel_rfl)
  rw [show 9999 + 1 = 10000 from rfl] at hs
  rw [hs]
  obtain ⟨f0, f1, f2, f3, hf, h0, h1, h2, h3⟩ := fields4 draft_fields
  rw [hf]
  obtain ⟨p0, p1, p2, p3⟩ := draft_part a ha.1 w
  obtain ⟨q0, q1, q2, q3⟩ := draft_part b hb.1 w
  have e0 := run_equalIn_int (P := Tryd.prog) w 9998 3 .i64 .i64 a.kind b.kind Tryd.underlying3
  have e1 := run_equal_text (P := Tryd.prog) (w := w) 9998 9 a.key b.key Tryd.underlying9
  have e2 := run_equal_text (P := Tryd.prog) (w := w) 9998 9 a.val b.val Tryd.underlying9
  have e3 : (Op.equalIn 9999 25 (.agg (nums .u8 a.ref).toArray) (.agg (nums .u8 b.ref).toArray)).run Tryd.prog w = .ok (a.ref == b.ref) w := by
    rw [cells_txt ha.2, cells_txt hb.2, run_equalIn_bytes w 9997 25 5 32 Tryd.underlying25 Tryd.underlying5 Tryd.sizeOf5 (txt a.ref) (txt b.ref) (by rw [txt_len, ha.1]) (by rw [txt_len, hb.1]), txt_beq ha.2 hb.2]
  have h := eqFields_cons h0 (by decide) p0 q0 e0 (eqFields_cons h1 (by decide) p1 q1 e1 (eqFields_cons h2 (by decide) p2 q2 e2 (eqFields_cons h3 (by decide) p3 q3 e3 eqFields_nil)))
  rw [h, ← eqDB_eq]
  rfl
theorem eql_draft (a b : DraftN) (ha : IdOk a.ref) (hb : IdOk b.ref) (w : World) : (binOp .eql 27 (.agg (draftV a)) (.agg (draftV b))).run Tryd.prog w = .ok (.bool (decide (a = b))) w := by
  rw [run_eql_struct, equal_draft a b ha hb]
  rfl
theorem guard_draft (x y : Operand) (u v : Array Value) (w : World) : (eqGuard .eql 27 x y (.agg u) (.agg v)).run Tryd.prog w = .ok () w := run_eqGuard_agg w .eql 27 x y u v (by kernel_rfl)
end Go.Proofs.YthgfpojfnhkckaaDoor
