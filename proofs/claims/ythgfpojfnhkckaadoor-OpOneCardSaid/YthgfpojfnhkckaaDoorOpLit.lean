/-
  Drafts and operations built.
-/
import Derived.Test.YthgfpojfnhkckaaDoorOpAt
import Derived.Test.YthgfpojfnhkckaaDoorLay
namespace Go.Proofs.YthgfpojfnhkckaaDoor
open Go.RowKit Go.BigFrame

theorem Tryd.sizeD : (Tryd.prog.info? 27).map (·.size) = some 35 := by kernel_rfl
theorem Tryd.sizeO : (Tryd.prog.info? 30).map (·.size) = some 38 := by kernel_rfl
def zeroD : DraftN := ⟨0, [], [], zeroI⟩
def zeroO : OpN := ⟨zeroD, 0, 0, []⟩
theorem zeroD_lit : draftV zeroD = #[.int .i64 0, .string ⟨#[]⟩, .string ⟨#[]⟩, .int .u8 0, .int .u8 0, .int .u8 0, .int .u8 0, .int .u8 0, .int .u8 0, .int .u8 0, .int .u8 0, .int .u8 0, .int .u8 0, .int .u8 0, .int .u8 0, .int .u8 0, .int .u8 0, .int .u8 0, .int .u8 0, .int .u8 0, .int .u8 0, .int .u8 0, .int .u8 0, .int .u8 0, .int .u8 0, .int .u8 0, .int .u8 0, .int .u8 0, .int .u8 0, .int .u8 0, .int .u8 0, .int .u8 0, .int .u8 0, .int .u8 0, .int .u8 0] := rfl
theorem zeroO_lit : opV zeroO none 0 = #[.int .i64 0, .string ⟨#[]⟩, .string ⟨#[]⟩, .int .u8 0, .int .u8 0, .int .u8 0, .int .u8 0, .int .u8 0, .int .u8 0, .int .u8 0, .int .u8 0, .int .u8 0, .int .u8 0, .int .u8 0, .int .u8 0, .int .u8 0, .int .u8 0, .int .u8 0, .int .u8 0, .int .u8 0, .int .u8 0, .int .u8 0, .int .u8 0, .int .u8 0, .int .u8 0, .int .u8 0, .int .u8 0, .int .u8 0, .int .u8 0, .int .u8 0, .int .u8 0, .int .u8 0, .int .u8 0, .int .u8 0, .int .u8 0, .int .i64 0, .int .i64 0, .slice none 0 0] := rfl
def placeD : Nat → Option (Nat × Nat) := fun i => (#[(0, 1), (1, 1), (2, 1), (3, 32)] : Array (Nat × Nat))[i]?
def placeO : Nat → Option (Nat × Nat) := fun i => (#[(0, 35), (35, 1), (36, 1), (37, 1)] : Array (Nat × Nat))[i]?
theorem draft_fill (parts : List (Nat × Value)) : Tryd.prog.built 27 parts = Instr.fill placeD (draftV zeroD) parts := by kernel_rfl
theorem op_fill (parts : List (Nat × Value)) : Tryd.prog.built 30 parts = Instr.fill placeO (opV zeroO none 0) parts := by kernel_rfl
theorem built_draft0 : Tryd.prog.built 27 [] = some (draftV zeroD) := by rw [draft_fill]; rfl
theorem built_op0 : Tryd.prog.built 30 [] = some (opV zeroO none 0) := by rw [op_fill]; rfl
theorem built_draft (d : DraftN) (hr : d.ref.length = 32) : Tryd.prog.built 27 [(0, .int .i64 d.kind), (1, .string ⟨d.key.toArray⟩), (2, .string ⟨d.val.toArray⟩), (3, .agg (nums .u8 d.ref).toArray)] = some (draftV d) := by
  rw [draft_fill]
  refine (fill_lay placeD 0 0 1 _ _ [] [.int .i64 0] (.string ⟨#[]⟩ :: .string ⟨#[]⟩ :: nums .u8 zeroI) [.int .i64 d.kind] rfl rfl rfl rfl rfl).trans ?_
  refine (fill_lay placeD 1 1 1 _ _ [.int .i64 d.kind] [.string ⟨#[]⟩] (.string ⟨#[]⟩ :: nums .u8 zeroI) [.string ⟨d.key.toArray⟩] rfl rfl rfl rfl rfl).trans ?_
  refine (fill_lay placeD 2 2 1 _ _ [.int .i64 d.kind, .string ⟨d.key.toArray⟩] [.string ⟨#[]⟩] (nums .u8 zeroI) [.string ⟨d.val.toArray⟩] rfl rfl rfl rfl rfl).trans ?_
  refine ((fill_lay placeD 3 3 32 (.agg (nums .u8 d.ref).toArray) [] [.int .i64 d.kind, .string ⟨d.key.toArray⟩, .string ⟨d.val.toArray⟩] (nums .u8 zeroI) [] (nums .u8 d.ref) rfl rfl (by rw [nums_len, hr]) rfl rfl).trans ?_)
  rw [fill_end, List.append_nil]
  rfl
theorem built_op (o : OpN) (hr : o.d.ref.length = 32) (hp : o.preds = []) : Tryd.prog.built 30 [(0, .agg (draftV o.d)), (1, .int .i64 o.author), (2, .int .i64 o.depth)] = some (opV o none 0) := by
  rw [op_fill]
  refine (fill_lay placeO 0 0 35 _ _ [] (draftL zeroD) [.int .i64 0, .int .i64 0, .slice none 0 0] (draftL o.d) rfl rfl (draftL_len hr) rfl rfl).trans ?_
  refine (fill_lay placeO 1 35 1 _ _ (draftL o.d) [.int .i64 0] [.int .i64 0, .slice none 0 0] [.int .i64 o.author] rfl rfl rfl rfl (draftL_len hr)).trans ?_
  show Instr.fill _ (draftL o.d ++ ([Value.int .i64 o.author] ++ ([Value.int .i64 0] ++ [Value.slice none 0 0]))).toArray _ = _
  rw [← List.append_assoc]
  refine ((fill_lay placeO 2 36 1 (.int .i64 o.depth) [] (draftL o.d ++ [.int .i64 o.author]) [.int .i64 0] [.slice none 0 0] [.int .i64 o.depth] rfl rfl rfl rfl (by rw [List.length_append, draftL_len hr]; rfl)).trans ?_)
  rw [fill_end, opV, opL, hp]
  simp
theorem draftV_all (d : DraftN) : (draftV d).all (·.oneCell') = true := by
  rw [draftV, List.all_toArray]
  exact List.all_eq_true.2 (draftL_one d)
theorem opV_all (o : OpN) (pa : Option Addr) (pc : Nat) : (opV o pa pc).all (·.oneCell') = true := by
  rw [opV, List.all_toArray]
  exact List.all_eq_true.2 (opL_one o pa pc)
theorem draftV_size {d : DraftN} (h : d.ref.length = 32) : (draftV d).size = 35 := draftL_len h
theorem opV_size {o : OpN} {pa : Option Addr} {pc : Nat} (h : o.d.ref.length = 32) : (opV o pa pc).size = 38 := opL_len h
end Go.Proofs.YthgfpojfnhkckaaDoor
