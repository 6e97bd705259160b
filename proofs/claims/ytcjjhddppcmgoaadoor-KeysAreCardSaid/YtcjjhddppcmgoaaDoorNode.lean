/-
  A node's value: built, compared.
-/
import Derived.Test.YtcjjhddppcmgoaaDoorKeysVer
import Derived.Laws.StructEq
namespace Go.Proofs.YtcjjhddppcmgoaaDoor
open Go.RowKit Go.BigFrame

theorem node_fill (parts : List (Nat × Value)) : Tryd.prog.built 33 parts = Instr.fill (fun i => (#[(0, 16), (16, 1)] : Array (Nat × Nat))[i]?) (nodeV (List.replicate 16 0) 0) parts := by kernel_rfl
theorem fold_lay0 : ∀ (vs : List Value) (cs : Array Value) (k : Nat), List.foldl (fun (cs : Array Value) (x : Value × Nat) => cs.setIfInBounds (0 + x.2) x.1) cs (vs.zipIdx k) = (layL cs.toList k vs).toArray
  | [], cs, k => by simp [layL]
  | v :: r, cs, k => by rw [List.zipIdx_cons, List.foldl_cons, fold_lay0 r, layL]; simp
theorem lay_head {vs xs ys : List Value} (h : vs.length = xs.length) : layL (xs ++ ys) 0 vs = vs ++ ys := by
  refine List.ext_getElem? fun j => ?_
  rw [layL_get _ _ _ _ (by rw [List.length_append]; omega)]
  by_cases hj : j < vs.length
  · rw [if_pos (by omega), Nat.sub_zero, List.getElem?_append_left hj]
  · rw [if_neg (by omega), List.getElem?_append_right (by omega), List.getElem?_append_right (by omega), h]
theorem fill_next (place : Nat → Option (Nat × Nat)) (cells : Array Value) (i : Nat) (v : Value) (rest : List (Nat × Value)) (off size : Nat) (hp : place i = some (off, size)) (h1 : v.cells.size = size) (h2 : off + size ≤ cells.size) :
    Instr.fill place cells ((i, v) :: rest) = Instr.fill place (v.cells.toList.zipIdx.foldl (fun (cs : Array Value) (x : Value × Nat) => cs.setIfInBounds (off + x.2) x.1) cells) rest := by
  rw [Instr.fill]
  simp only [hp]
  rw [if_neg (by simp [h1]; omega)]
  congr 1
  rw [← Array.foldl_toList, Array.toList_zipIdx]
theorem built_node (r : List Nat) (h : Int) (hr : r.length = 16) : Tryd.prog.built 33 [(0, .agg (nums .u8 r).toArray), (1, .int .i64 h)] = some (nodeV r h) := by
  have h16 : (nums .u8 r).length = 16 := by rw [nums_len, hr]
  rw [node_fill]
  have e2 : (nodeV r 0).setIfInBounds (16 + 0) (.int .i64 h) = nodeV r h := by
    rw [nodeV, nodeV, List.setIfInBounds_toArray, List.set_append_right _ _ (by omega), h16]
    rfl
  have hs1 : (Value.agg (nums .u8 r).toArray).cells.size = 16 := by show (nums .u8 r).toArray.size = 16; rw [List.size_toArray, h16]
  have hs2 : (nodeV r 0).size = 17 := by rw [nodeV, List.size_toArray, List.length_append, h16]; rfl
  have hs3 : (nodeV (List.replicate 16 0) 0).size = 17 := by rfl
  rw [fill_next _ _ 0 _ _ 0 16 rfl hs1 (by rw [hs3]; decide)]
  rw [show (Value.agg (nums .u8 r).toArray).cells.toList = nums .u8 r from rfl, fold_lay0, show (nodeV (List.replicate 16 0) 0).toList = nums .u8 (List.replicate 16 0) ++ [Value.int .i64 0] from rfl, lay_head (by rw [nums_len, nums_len, hr]; rfl)]
  rw [show (nums .u8 r ++ [Value.int .i64 0]).toArray = nodeV r 0 from rfl]
  rw [fill_next _ _ 1 _ _ 16 1 rfl rfl (by rw [hs2]; decide)]
  show some ((nodeV r 0).setIfInBounds (16 + 0) (.int .i64 h)) = _
  rw [e2]
/-- A node is built. -/
theorem wpList_build_node {ops : Array Oper} {rest : List Oper} {o : Oper} {a : Act} {w : World} {Q : Exit → Act → World → Prop} (hg : o.guard = none) (x y : Operand) (ho : o.op = .build 33 #[(0, x), (1, y)]) (r : List Nat) (h : Int)
    (hx : a.eval x = .agg (nums .u8 r).toArray) (hy : a.eval y = .int .i64 h) (hr : r.length = 16) (hk : wpList Tryd.prog ops Q rest (a.put o.dst (.agg (nodeV r h))) w) : wpList Tryd.prog ops Q (o :: rest) a w := by
  refine wpList_plain hg fun K hK => ?_
  have e : ((#[(0, x), (1, y)] : Array (Nat × Operand)).map fun (i, x) => (i, a.eval x)) = #[(0, .agg (nums .u8 r).toArray), (1, .int .i64 h)] := by simp [hx, hy]
  have hb := run_build (P := Tryd.prog) w 33 #[(0, .agg (nums .u8 r).toArray), (1, .int .i64 h)] _ (built_node r h hr)
  unfold Oper.wp execOp
  simp only [ho, e, Sem.run_bind, hb, Result.andThen_ok]
  exact hK _ _ hk
theorem quiet_build_node {o : Oper} {a : Act} {C : World → Prop} {K : Act → Prop} (x y : Operand) (ho : o.op = .build 33 #[(0, x), (1, y)]) (r : List Nat) (h : Int)
    (hx : a.eval x = .agg (nums .u8 r).toArray) (hy : a.eval y = .int .i64 h) (hr : r.length = 16) (hk : K (a.put o.dst (.agg (nodeV r h)))) : o.quiet Tryd.prog a C K := by
  refine ⟨_, fun w hw => ?_, hk⟩
  have e : ((#[(0, x), (1, y)] : Array (Nat × Operand)).map fun (i, x) => (i, a.eval x)) = #[(0, .agg (nums .u8 r).toArray), (1, .int .i64 h)] := by simp [hx, hy]
  have hb := run_build (P := Tryd.prog) w 33 #[(0, .agg (nums .u8 r).toArray), (1, .int .i64 h)] _ (built_node r h hr)
  unfold Oper.quietAt execOp
  simp only [ho, e, Sem.run_bind, hb, Result.andThen_ok]
  exact ⟨rfl, rfl⟩
theorem node_fields : (Tryd.prog.fieldsOf 33).toList.map (fun f => (f.name, f.type, f.offset)) = [("Root", 31, 0), ("Height", 3, 16)] := by kernel_rfl
theorem node_part0 (a : List Nat) (g : Int) (ha : a.length = 16) (w : World) : (Go.part 31 (nodeV a g) 0).run Tryd.prog w = .ok (.agg (nums .u8 a).toArray) w := by
  have h1 : (isAgg 31).run Tryd.prog w = .ok true w := by kernel_rfl
  have h2 : (sizeOf 31).run Tryd.prog w = .ok 16 w := by kernel_rfl
  have h3 : (nodeV a g).extract 0 16 = (nums .u8 a).toArray := by
    apply Array.ext'
    rw [nodeV, List.extract_toArray, List.toList_toArray, List.toList_toArray, List.extract_eq_take_drop, List.drop_zero, List.take_append_of_le_length (by rw [nums_len, ha]; decide), List.take_of_length_le (by rw [nums_len, ha]; decide)]
  simp only [Go.part, Sem.run_bind, h1, h2, Result.andThen_ok, if_true, Nat.zero_add, h3, Sem.run_pure]
theorem node_part1 (a : List Nat) (g : Int) (ha : a.length = 16) (w : World) : (Go.part 3 (nodeV a g) 16).run Tryd.prog w = .ok (.int .i64 g) w := by
  have h1 : (isAgg 3).run Tryd.prog w = .ok false w := by kernel_rfl
  have h3 : (nodeV a g)[16]? = some (.int .i64 g) := by
    rw [nodeV, List.getElem?_toArray, List.getElem?_append_right (by rw [nums_len, ha]; decide), nums_len, ha]
    rfl
  simp only [Go.part, Sem.run_bind, h1, Result.andThen_ok, Bool.false_eq_true, if_false, h3, Sem.run_pure]
theorem equal_node (a b : List Nat) (g h : Int) (ha : a.length = 16) (hb : b.length = 16) (la : ∀ x ∈ a, x < 256) (lb : ∀ x ∈ b, x < 256) (w : World) :
    (Op.equalIn 10000 33 (.agg (nodeV a g)) (.agg (nodeV b h))).run Tryd.prog w = .ok ((a == b) && (g == h)) w := by
  have hs := run_equalIn_struct (P := Tryd.prog) w 9999 33 (nodeV a g) (nodeV b h) (by kernel_rfl) (by kernel_rfl)
  rw [show 9999 + 1 = 10000 from rfl] at hs
  rw [hs]
  obtain ⟨f0, f1, hf, h0, h1⟩ : ∃ f0 f1, (Tryd.prog.fieldsOf 33).toList = [f0, f1] ∧ (f0.name, f0.type, f0.offset) = ("Root", 31, 0) ∧ (f1.name, f1.type, f1.offset) = ("Height", 3, 16) := by
    have hm := node_fields
    generalize (Tryd.prog.fieldsOf 33).toList = l at hm
    match l, hm with
    | [f0, f1], hm =>
      simp only [List.map_cons, List.map_nil, List.cons.injEq, and_true] at hm
      exact ⟨f0, f1, rfl, hm.1, hm.2⟩
    | [], hm => simp at hm
    | [_], hm => simp at hm
    | _ :: _ :: _ :: _, hm => simp at hm
  simp only [Prod.mk.injEq] at h0 h1
  rw [hf]
  simp only [Op.eqFields, h0.1, h0.2.1, h0.2.2, h1.1, h1.2.1, h1.2.2]
  have q1 : (Op.equalIn 9999 31 (.agg (nums .u8 a).toArray) (.agg (nums .u8 b).toArray)).run Tryd.prog w = .ok (a == b) w := by
    rw [cells_txt la, cells_txt lb, run_equalIn_bytes w 9997 31 5 16 Tryd.underlying31 Tryd.underlying5 Tryd.sizeOf5 (txt a) (txt b) (by rw [txt_len, ha]) (by rw [txt_len, hb]), txt_beq la lb]
  have q2 := run_equalIn_int (P := Tryd.prog) w 9998 3 .i64 .i64 g h Tryd.underlying3
  rw [show 9998 + 1 = 9999 from rfl] at q2
  rw [if_pos (by decide)]
  simp only [Sem.run_bind, node_part0 a g ha, node_part0 b h hb, q1, Result.andThen_ok]
  cases hab : (a == b) with
  | false => simp
  | true =>
    simp only [Bool.not_true, Bool.false_eq_true, if_false, Bool.true_and]
    rw [if_pos (by decide)]
    simp only [Sem.run_bind, node_part1 a g ha, node_part1 b h hb, q2, Result.andThen_ok]
    cases (g == h) <;> simp
end Go.Proofs.YtcjjhddppcmgoaaDoor
