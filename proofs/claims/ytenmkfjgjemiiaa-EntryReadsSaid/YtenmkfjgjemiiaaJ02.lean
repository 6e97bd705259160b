/-
  Joined: Operations of a region whose order is open, one by one (for the steps of wp_region_free): fields, loads, conversions, literal slices of one value, values pushed.; Drafts and operations as values.; Structs built: a literal of any struct type by its layout (wpList_build_val, quiet_build_val, op_build_val: the value as an equation of P.built).; Drafts built.; Drafts compared.; Rows of blocks of K cells (arrays, structs), one behind the other: a block read, laid over, pushed; copy; a call of a function value.; Entries as values: where their fields lie, how they are built and compared.; The developers' GoodDraft.; A text copied over cells of one's own, wherever they lie; a block of cells laid over; facts of regions whose order is open: Ord (one comes behind another), NewC.turn.; An operator whose answer is known, in a plain region.; The developers' Good of layer 15.; Sizes of drafts and operations that the laws let through.
-/
import Derived.Deep.MidRow
import Derived.Great.BuildSlice
import Derived.Laws.DeepStrings4
import Derived.Laws.IdiomCopy
import Derived.Laws.StructEq
import Derived.Test.YtenmkfjgjemiiaaJ01
namespace Go.Proofs.Ytenmkfjgjemiiaa
open Go.RowKit
section
variable {P : Program} {o : Oper} {a : Act} {w : World} {K : Act → World → Prop} {Q : Exit → Act → World → Prop}
theorem op_fieldAt (ty : TypeId) (x : Operand) (k : Nat) (ho : o.op = .fieldAddr ty x k) (p q : Addr) (hx : a.eval x = .pointer (some p)) (hr : ∀ w, (Instr.fieldAt ty (.pointer (some p)) k).run P w = .ok (.pointer (some q)) w)
    (h : K (a.put o.dst (.pointer (some q))) w) : OpWp P o a w K Q := by
  refine ⟨?_⟩
  unfold Oper.wp execOp
  simp only [ho, hx, Sem.run_bind, Sem.run_pure, hr, Result.andThen_ok]
  exact h
theorem op_load_cell (ty : TypeId) (x : Operand) (ho : o.op = .load ty x) (p : Addr) (v : Value) (hx : a.eval x = .pointer (some p)) (hc : w.cell? p = some v) (hi : ∀ w, (isAgg ty).run P w = .ok false w) (h : K (a.put o.dst v) w) : OpWp P o a w K Q := by
  refine ⟨?_⟩
  unfold Oper.wp execOp
  simp only [ho, hx, Instr.loadAt, Instr.sureAddr, Sem.run_bind, Sem.run_pure, Result.andThen_ok, run_loadVar_cell w ty p v hc hi]
  exact h
theorem op_indexAt (ty : TypeId) (x y : Operand) (ho : o.op = .indexAddr ty x y) (vx vy : Value) (q : Addr) (hx : a.eval x = vx) (hy : a.eval y = vy) (hr : ∀ w, (Instr.indexAt ty vx vy).run P w = .ok (.pointer (some q)) w)
    (h : K (a.put o.dst (.pointer (some q))) w) : OpWp P o a w K Q := by
  refine ⟨?_⟩
  unfold Oper.wp execOp
  simp only [ho, hx, hy, Sem.run_bind, Sem.run_pure, hr, Result.andThen_ok]
  exact h
theorem op_build (t : TypeId) (parts : Array (Nat × Operand)) (ho : o.op = .build t parts) (vs : List (Nat × Value)) (cells : Array Value) (hv : (parts.map fun (i, x) => (i, a.eval x)) = vs.toArray)
    (hc : ∀ w, (Instr.build t vs.toArray).run P w = .ok (.agg cells) w) (h : K (a.put o.dst (.agg cells)) w) : OpWp P o a w K Q := by
  refine ⟨?_⟩
  unfold Oper.wp execOp
  simp only [ho, hv, Sem.run_bind, Sem.run_pure, hc, Result.andThen_ok]
  exact h
theorem op_conv (t u : TypeId) (x : Operand) (ho : o.op = .convert t u x) (v r : Value) (hx : a.eval x = v) (hC : (convert t u v).run P w = .ok r w) (h : K (a.put o.dst r) w) : OpWp P o a w K Q := by
  refine ⟨?_⟩
  unfold Oper.wp execOp
  simp only [ho, hx, Sem.run_bind, hC, Result.andThen_ok, Sem.run_pure]
  exact h
end
theorem op_bin {P : Program} {o : Oper} {a : Act} {w : World} {K : Act → World → Prop} {Q : Exit → Act → World → Prop} (op : BinOp) (t u : TypeId) (x y : Operand) (ho : o.op = .binOp op t x y u) (vx vy r : Value) (hx : a.eval x = vx) (hy : a.eval y = vy)
    (hg : ∀ w, (eqGuard op t x y vx vy).run P w = .ok () w) (hr : ∀ w, (binOp op t vx vy).run P w = .ok r w) (h : K (a.put o.dst r) w) : OpWp P o a w K Q := by
  refine ⟨?_⟩
  unfold Oper.wp execOp
  simp only [ho, hx, hy, Sem.run_bind, Sem.run_pure, hg, hr, Result.andThen_ok]
  exact h
theorem results_cells_tmp {P : Program} {fn : Func} {p u : Tmp} {ty : TypeId} (h : fn.results = #[.cell p ty, .tmp u]) (tmps : Array Value) (w : World) (g : Nat) (cs : Array Value) (t : TypeId) (d : TypeDesc) (v : Value)
    (hp : tmps.getD p undef = .pointer (some ⟨g, 0, none⟩)) (hv : tmps.getD u undef = v) (hg : Cells g t cs w)
    (hu : P.underlying ty = some d) (hd : (match d with | .struct _ | .array _ _ => true | _ => false) = true) (hi : (P.info? ty).map (·.size) = some cs.size) :
    (results fn tmps).run P w = .ok (.tuple #[.agg cs, v]) w := by
  rw [results_cell_tmp h, hp, hv]
  simp [asAddr, Result.andThen, run_loadVar_row w g t ty _ (0, 0) d hg hu hd hi]
end Go.Proofs.Ytenmkfjgjemiiaa
namespace Go.Proofs.Ytenmkfjgjemiiaa
open Go.RowKit Go.BigFrame
def draftL (d : DraftN) : List Value := .int .i64 d.kind :: .string ⟨d.key.toArray⟩ :: .string ⟨d.val.toArray⟩ :: nums .u8 d.ref
def draftV (d : DraftN) : Array Value := (draftL d).toArray
theorem draftL_len {d : DraftN} (h : d.ref.length = 32) : (draftL d).length = 35 := by simp [draftL, nums_len, h]
theorem draftL_one (d : DraftN) : ∀ u ∈ draftL d, u.oneCell' = true := fun u hu => by
  simp only [draftL, List.mem_cons] at hu
  rcases hu with rfl | rfl | rfl | hu
  · rfl
  · rfl
  · rfl
  · exact nums_one _ _ u hu
theorem zeroI_lit : (nums .u8 zeroI).toArray = #[.int .u8 0, .int .u8 0, .int .u8 0, .int .u8 0, .int .u8 0, .int .u8 0, .int .u8 0, .int .u8 0, .int .u8 0, .int .u8 0, .int .u8 0, .int .u8 0, .int .u8 0, .int .u8 0, .int .u8 0, .int .u8 0, .int .u8 0, .int .u8 0, .int .u8 0, .int .u8 0, .int .u8 0, .int .u8 0, .int .u8 0, .int .u8 0, .int .u8 0, .int .u8 0, .int .u8 0, .int .u8 0, .int .u8 0, .int .u8 0, .int .u8 0, .int .u8 0] := rfl
theorem Try.sizeI : (Try.prog.info? 26).map (·.size) = some 32 := by kernel_rfl
theorem draft_cells {g : Nat} {t : TypeId} {d : DraftN} {w : World} (h : Cells g t (draftV d) w) : w.cell? ⟨g, 0, none⟩ = some (.int .i64 d.kind) ∧ w.cell? ⟨g, 1, none⟩ = some (.string ⟨d.key.toArray⟩) ∧ w.cell? ⟨g, 2, none⟩ = some (.string ⟨d.val.toArray⟩) ∧ w.rangeAt g 3 (nums .u8 d.ref) := by
  refine ⟨by rw [h.at]; rfl, by rw [h.at]; rfl, by rw [h.at]; rfl, fun j v hj => ?_⟩
  rw [h.at, draftV, List.getElem?_toArray, draftL, Nat.add_comm, List.getElem?_cons_succ, List.getElem?_cons_succ, List.getElem?_cons_succ]
  exact hj
theorem val_nil_beq (v : List UInt8) : (v == []) = decide (v = []) := by cases v <;> simp
end Go.Proofs.Ytenmkfjgjemiiaa
namespace Go.Proofs.Ytenmkfjgjemiiaa
open Go.RowKit
def putL (xs : List Value) : Nat → List Value → List Value
  | _, [] => xs
  | o, v :: r => putL (xs.set o v) (o + 1) r
theorem fold_putL (off : Nat) : ∀ (vs : List Value) (cs : Array Value) (k : Nat), List.foldl (fun (cs : Array Value) (x : Value × Nat) => cs.setIfInBounds (off + x.2) x.1) cs (vs.zipIdx k) = (putL cs.toList (off + k) vs).toArray
  | [], cs, k => by simp [putL]
  | v :: r, cs, k => by rw [List.zipIdx_cons, List.foldl_cons, fold_putL off r, putL]; simp [Nat.add_assoc]
theorem putL_mid : ∀ (vs xs ys zs : List Value), vs.length = ys.length → putL (xs ++ (ys ++ zs)) xs.length vs = xs ++ (vs ++ zs)
  | [], xs, ys, zs, h => by
    obtain rfl : ys = [] := List.length_eq_zero_iff.1 h.symm
    rfl
  | v :: r, xs, ys, zs, h => by
    cases ys with
    | nil => cases h
    | cons y ys =>
      have ih := putL_mid r (xs ++ [v]) ys zs (by simpa using h)
      rw [List.length_append, List.length_singleton] at ih
      rw [putL, List.cons_append, List.set_append_right _ _ (Nat.le_refl _), Nat.sub_self, List.set_cons_zero]
      simpa using ih
theorem fill_lay (place : Nat → Option (Nat × Nat)) (i off size : Nat) (v : Value) (rest : List (Nat × Value)) (xs ys zs vs : List Value) (hp : place i = some (off, size)) (hv : v.cells.toList = vs) (h1 : vs.length = size) (h2 : ys.length = size) (h3 : xs.length = off) :
    Instr.fill place (xs ++ (ys ++ zs)).toArray ((i, v) :: rest) = Instr.fill place (xs ++ (vs ++ zs)).toArray rest := by
  have hc : v.cells.size = size := by rw [← h1, ← hv, Array.length_toList]
  rw [Instr.fill]
  simp only [hp]
  rw [if_neg (by simp [hc]; omega)]
  congr 1
  rw [← Array.foldl_toList, Array.toList_zipIdx, fold_putL off, hv]
  show (putL (xs ++ (ys ++ zs)) (off + 0) vs).toArray = _
  rw [Nat.add_zero, ← h3, putL_mid _ _ _ _ (by omega)]
theorem fill_end (place : Nat → Option (Nat × Nat)) (cs : Array Value) : Instr.fill place cs [] = some cs := rfl
theorem run_build_val {P : Program} {a : Act} {w : World} (t : TypeId) (parts : Array (Nat × Operand)) (vals : List (Nat × Value)) (cs : Array Value)
    (hp : (parts.map fun (i, x) => (i, a.eval x)) = vals.toArray) (hb : P.built t vals = some cs) : (Instr.build t (parts.map fun (i, x) => (i, a.eval x))).run P w = .ok (.agg cs) w := by
  rw [hp]
  exact run_build w t vals.toArray cs (by simpa using hb)
theorem wpList_build_val {P : Program} {ops : Array Oper} {rest : List Oper} {o : Oper} {a : Act} {w : World} {Q : Exit → Act → World → Prop} (hg : o.guard = none) (t : TypeId) (parts : Array (Nat × Operand)) (ho : o.op = .build t parts)
    (vals : List (Nat × Value)) (cs : Array Value) (hp : (parts.map fun (i, x) => (i, a.eval x)) = vals.toArray) (hb : P.built t vals = some cs) (hk : wpList P ops Q rest (a.put o.dst (.agg cs)) w) : wpList P ops Q (o :: rest) a w := by
  refine wpList_plain hg fun K hK => ?_
  unfold Oper.wp execOp
  simp only [ho, Sem.run_bind, run_build_val t parts vals cs hp hb, Result.andThen_ok]
  exact hK _ _ hk
theorem wpList_build_want {P : Program} {ops : Array Oper} {rest : List Oper} {o : Oper} {a : Act} {w : World} {Q : Exit → Act → World → Prop} (hw : Region.wanted o (yielded ops a.tmps) = true) (t : TypeId) (parts : Array (Nat × Operand)) (ho : o.op = .build t parts)
    (vals : List (Nat × Value)) (cs : Array Value) (hp : (parts.map fun (i, x) => (i, a.eval x)) = vals.toArray) (hb : P.built t vals = some cs) (hk : wpList P ops Q rest (a.put o.dst (.agg cs)) w) : wpList P ops Q (o :: rest) a w := by
  refine BigFrame.wpList_want hw fun K hK => ?_
  unfold Oper.wp execOp
  simp only [ho, Sem.run_bind, run_build_val t parts vals cs hp hb, Result.andThen_ok]
  exact hK _ _ hk
def NewC (s : Nat → Bool) (V : Nat → Value) (B i : Nat) (t : TypeId) (cs : Array Value) (w : World) : Prop := s i = true → ∃ g, V i = .pointer (some ⟨g, 0, none⟩) ∧ B ≤ g ∧ Cells g t cs w
theorem NewC.none {V : Nat → Value} {B i : Nat} {t : TypeId} {cs : Array Value} {w : World} : NewC (fun _ => false) V B i t cs w := fun h => by cases h
theorem NewC.ne {s : Nat → Bool} {V : Nat → Value} {B i j : Nat} {t : TypeId} {cs : Array Value} {w w' : World} {u : Value} (h : NewC s V B j t cs w) (hne : j ≠ i) (hb : Below w.heap.size w w') : NewC (fun j => s j || j == i) (upd V i u) B j t cs w' := fun hs => by
  obtain ⟨g, e, hg, hk⟩ := h (seen_ne hne hs)
  exact ⟨g, by rw [upd_ne V u hne]; exact e, hg, hk.below hb⟩
theorem NewC.same {s : Nat → Bool} {V : Nat → Value} {B i : Nat} {t : TypeId} {cs : Array Value} {w : World} (hB : B ≤ w.heap.size) : NewC (fun j => s j || j == i) (upd V i (.pointer (some ⟨w.heap.size, 0, Option.none⟩))) B i t cs (w.alloc (.cells cs t)) :=
  fun _ => ⟨w.heap.size, upd_same _ _ _, hB, heap_alloc_new w _⟩
theorem wpList_load_cells_want {P : Program} {w : World} {ops : Array Oper} {rest : List Oper} {o : Oper} {a : Act} {Q : Exit → Act → World → Prop} (hw : Region.wanted o (yielded ops a.tmps) = true) (ty : TypeId) (x : Operand) (ho : o.op = .load ty x)
    (g : Nat) (cs : Array Value) (t : TypeId) (d : TypeDesc) (hx : a.eval x = .pointer (some ⟨g, 0, none⟩)) (hg : Cells g t cs w)
    (hu : P.underlying ty = some d) (hd : (match d with | .struct _ | .array _ _ => true | _ => false) = true) (hi : (P.info? ty).map (·.size) = some cs.size)
    (h : wpList P ops Q rest (a.put o.dst (.agg cs)) w) : wpList P ops Q (o :: rest) a w :=
  BigFrame.wpList_want hw fun _ hK => wp_load_row ty x ho g hx t _ _ d hg hu hd hi (hK _ _ h)
theorem quiet_load_row {P : Program} {o : Oper} {a : Act} {C : World → Prop} {K : Act → Prop} (ty : TypeId) (x : Operand) (ho : o.op = .load ty x) (b off : Nat) (cs : List Value) (d : TypeDesc)
    (hx : a.eval x = .pointer (some ⟨b, off, none⟩)) (hC : ∀ w, C w → w.rangeAt b off cs) (hu : P.underlying ty = some d) (hd : d.isRow = true) (hi : (P.info? ty).map (·.size) = some cs.length)
    (hk : K (a.put o.dst (.agg cs.toArray))) : o.quiet P a C K := by
  refine ⟨_, fun w hw => ?_, hk⟩
  unfold Oper.quietAt execOp
  simp only [ho, hx, Instr.loadAt, Instr.sureAddr, Sem.run_bind, Sem.run_pure, Result.andThen_ok, run_loadVar_mid w b off ty _ d (hC w hw) hu hd hi]
  exact ⟨rfl, rfl⟩
theorem quiet_bin {P : Program} {o : Oper} {a : Act} {C : World → Prop} {K : Act → Prop} (op : BinOp) (t u : TypeId) (x y : Operand) (ho : o.op = .binOp op t x y u) (vx vy r : Value) (hx : a.eval x = vx) (hy : a.eval y = vy)
    (hg : ∀ w, (eqGuard op t x y vx vy).run P w = .ok () w) (hr : ∀ w, (binOp op t vx vy).run P w = .ok r w) (hk : K (a.put o.dst r)) : o.quiet P a C K := by
  refine ⟨_, fun w hw => ?_, hk⟩
  unfold Oper.quietAt execOp
  simp only [ho, hx, hy, Sem.run_bind, Sem.run_pure, hg, hr, Result.andThen_ok]
  exact ⟨rfl, rfl⟩
theorem part_row {P : Program} {w : World} {t : TypeId} {xs vs : Array Value} {off n : Nat} (h1 : (isAgg t).run P w = .ok true w) (h2 : (sizeOf t).run P w = .ok n w) (h3 : xs.extract off (off + n) = vs) : (Go.part t xs off).run P w = .ok (.agg vs) w := by
  simp only [Go.part, Sem.run_bind, h1, h2, Result.andThen_ok, if_true, h3, Sem.run_pure]
theorem part_cell {P : Program} {w : World} {t : TypeId} {xs : Array Value} {off : Nat} {v : Value} (h1 : (isAgg t).run P w = .ok false w) (h3 : xs[off]? = some v) : (Go.part t xs off).run P w = .ok v w := by
  simp only [Go.part, Sem.run_bind, h1, Result.andThen_ok, Bool.false_eq_true, if_false, h3, Sem.run_pure]
theorem eqFields_cons {P : Program} {w : World} {d : Nat} {xs ys : Array Value} {f : Field} {fs : List Field} {nm : String} {t : TypeId} {off : Nat} {a b : Value} {r s : Bool} (hf : (f.name, f.type, f.offset) = (nm, t, off)) (hn : nm ≠ "_")
    (ha : (Go.part t xs off).run P w = .ok a w) (hb : (Go.part t ys off).run P w = .ok b w) (hr : (Op.equalIn d t a b).run P w = .ok r w) (hs : (Op.eqFields d xs ys fs).run P w = .ok s w) : (Op.eqFields d xs ys (f :: fs)).run P w = .ok (r && s) w := by
  simp only [Prod.mk.injEq] at hf
  obtain ⟨rfl, rfl, rfl⟩ := hf
  rw [Op.eqFields, if_pos hn]
  simp only [Sem.run_bind, ha, hb, hr, Result.andThen_ok]
  cases r with
  | false => simp
  | true => simpa using hs
theorem eqFields_nil {P : Program} {w : World} {d : Nat} {xs ys : Array Value} : (Op.eqFields d xs ys []).run P w = .ok true w := by
  rw [Op.eqFields, Sem.run_pure]
theorem run_equal_text {P : Program} {w : World} (d : Nat) (t : TypeId) (a b : List UInt8) (h : P.underlying t = some .string) : (Op.equalIn (d + 1) t (.string ⟨a.toArray⟩) (.string ⟨b.toArray⟩)).run P w = .ok (a == b) w := by
  rw [run_equalIn_string w d t _ _ h, ByteArray.toList_eq, ByteArray.toList_eq]
theorem fields4 {l : List Field} {a b c d : String × TypeId × Nat} (h : l.map (fun f => (f.name, f.type, f.offset)) = [a, b, c, d]) : ∃ f0 f1 f2 f3, l = [f0, f1, f2, f3] ∧ (f0.name, f0.type, f0.offset) = a ∧ (f1.name, f1.type, f1.offset) = b ∧ (f2.name, f2.type, f2.offset) = c ∧ (f3.name, f3.type, f3.offset) = d := by
  match l, h with
  | [f0, f1, f2, f3], h =>
    simp only [List.map_cons, List.map_nil, List.cons.injEq, and_true] at h
    exact ⟨f0, f1, f2, f3, rfl, h.1, h.2.1, h.2.2.1, h.2.2.2⟩
  | [], h => simp at h
  | [_], h => simp at h
  | [_, _], h => simp at h
  | [_, _, _], h => simp at h
  | _ :: _ :: _ :: _ :: _ :: _, h => simp at h
end Go.Proofs.Ytenmkfjgjemiiaa
namespace Go.Proofs.Ytenmkfjgjemiiaa
open Go.RowKit Go.BigFrame
theorem Try.sizeD : (Try.prog.info? 28).map (·.size) = some 35 := by kernel_rfl
def zeroD : DraftN := ⟨0, [], [], zeroI⟩
theorem zeroD_lit : draftV zeroD = #[.int .i64 0, .string ⟨#[]⟩, .string ⟨#[]⟩, .int .u8 0, .int .u8 0, .int .u8 0, .int .u8 0, .int .u8 0, .int .u8 0, .int .u8 0, .int .u8 0, .int .u8 0, .int .u8 0, .int .u8 0, .int .u8 0, .int .u8 0, .int .u8 0, .int .u8 0, .int .u8 0, .int .u8 0, .int .u8 0, .int .u8 0, .int .u8 0, .int .u8 0, .int .u8 0, .int .u8 0, .int .u8 0, .int .u8 0, .int .u8 0, .int .u8 0, .int .u8 0, .int .u8 0, .int .u8 0, .int .u8 0, .int .u8 0] := rfl
def placeD : Nat → Option (Nat × Nat) := fun i => (#[(0, 1), (1, 1), (2, 1), (3, 32)] : Array (Nat × Nat))[i]?
theorem draft_fill (parts : List (Nat × Value)) : Try.prog.built 28 parts = Instr.fill placeD (draftV zeroD) parts := by kernel_rfl
theorem built_draft0 : Try.prog.built 28 [] = some (draftV zeroD) := by rw [draft_fill]; rfl
theorem built_draft (d : DraftN) (hr : d.ref.length = 32) : Try.prog.built 28 [(0, .int .i64 d.kind), (1, .string ⟨d.key.toArray⟩), (2, .string ⟨d.val.toArray⟩), (3, .agg (nums .u8 d.ref).toArray)] = some (draftV d) := by
  rw [draft_fill]
  refine (fill_lay placeD 0 0 1 _ _ [] [.int .i64 0] (.string ⟨#[]⟩ :: .string ⟨#[]⟩ :: nums .u8 zeroI) [.int .i64 d.kind] rfl rfl rfl rfl rfl).trans ?_
  refine (fill_lay placeD 1 1 1 _ _ [.int .i64 d.kind] [.string ⟨#[]⟩] (.string ⟨#[]⟩ :: nums .u8 zeroI) [.string ⟨d.key.toArray⟩] rfl rfl rfl rfl rfl).trans ?_
  refine (fill_lay placeD 2 2 1 _ _ [.int .i64 d.kind, .string ⟨d.key.toArray⟩] [.string ⟨#[]⟩] (nums .u8 zeroI) [.string ⟨d.val.toArray⟩] rfl rfl rfl rfl rfl).trans ?_
  refine ((fill_lay placeD 3 3 32 (.agg (nums .u8 d.ref).toArray) [] [.int .i64 d.kind, .string ⟨d.key.toArray⟩, .string ⟨d.val.toArray⟩] (nums .u8 zeroI) [] (nums .u8 d.ref) rfl rfl (by rw [nums_len, hr]) rfl rfl).trans ?_)
  rw [fill_end, List.append_nil]
  rfl
theorem draftV_all (d : DraftN) : (draftV d).all (·.oneCell') = true := by
  rw [draftV, List.all_toArray]
  exact List.all_eq_true.2 (draftL_one d)
theorem draftV_size {d : DraftN} (h : d.ref.length = 32) : (draftV d).size = 35 := draftL_len h
end Go.Proofs.Ytenmkfjgjemiiaa
namespace Go.Proofs.Ytenmkfjgjemiiaa
open Go.RowKit Go.BigFrame
theorem draft_fields : (Try.prog.fieldsOf 28).toList.map (fun f => (f.name, f.type, f.offset)) = [("Kind", 3, 0), ("Key", 9, 1), ("Value", 9, 2), ("Ref", 26, 3)] := by kernel_rfl
theorem draft_part (d : DraftN) (hd : d.ref.length = 32) (w : World) : (Go.part 3 (draftV d) 0).run Try.prog w = .ok (.int .i64 d.kind) w ∧ (Go.part 9 (draftV d) 1).run Try.prog w = .ok (.string ⟨d.key.toArray⟩) w ∧
    (Go.part 9 (draftV d) 2).run Try.prog w = .ok (.string ⟨d.val.toArray⟩) w ∧ (Go.part 26 (draftV d) 3).run Try.prog w = .ok (.agg (nums .u8 d.ref).toArray) w := by
  refine ⟨part_cell (by kernel_rfl) rfl, part_cell (by kernel_rfl) rfl, part_cell (by kernel_rfl) rfl, part_row (n := 32) (by kernel_rfl) (by kernel_rfl) ?_⟩
  apply Array.ext'
  rw [draftV, draftL, List.extract_toArray, List.toList_toArray, List.extract_eq_take_drop]
  simp only [List.drop_succ_cons, List.drop_zero]
  rw [List.take_of_length_le (by rw [nums_len, hd]; decide)]
def eqDB (a b : DraftN) : Bool := (a.kind == b.kind) && ((a.key == b.key) && ((a.val == b.val) && ((a.ref == b.ref) && true)))
theorem eqDB_eq (a b : DraftN) : eqDB a b = decide (a = b) := by
  obtain ⟨a1, a2, a3, a4⟩ := a
  obtain ⟨b1, b2, b3, b4⟩ := b
  simp only [eqDB, DraftN.mk.injEq]
  rw [Bool.eq_iff_iff]
  simp
theorem equal_draft (a b : DraftN) (ha : IdOk a.ref) (hb : IdOk b.ref) (w : World) :
    (Op.equalIn 10000 28 (.agg (draftV a)) (.agg (draftV b))).run Try.prog w = .ok (decide (a = b)) w := by
  have hs := run_equalIn_struct (P := Try.prog) w 9999 28 (draftV a) (draftV b) (by kernel_rfl) (by kernel_rfl)
  rw [show 9999 + 1 = 10000 from rfl] at hs
  rw [hs]
  obtain ⟨f0, f1, f2, f3, hf, h0, h1, h2, h3⟩ := fields4 draft_fields
  rw [hf]
  obtain ⟨p0, p1, p2, p3⟩ := draft_part a ha.1 w
  obtain ⟨q0, q1, q2, q3⟩ := draft_part b hb.1 w
  have e0 := run_equalIn_int (P := Try.prog) w 9998 3 .i64 .i64 a.kind b.kind Try.underlying3
  have e1 := run_equal_text (P := Try.prog) (w := w) 9998 9 a.key b.key Try.underlying9
  have e2 := run_equal_text (P := Try.prog) (w := w) 9998 9 a.val b.val Try.underlying9
  have e3 : (Op.equalIn 9999 26 (.agg (nums .u8 a.ref).toArray) (.agg (nums .u8 b.ref).toArray)).run Try.prog w = .ok (a.ref == b.ref) w := by
    rw [cells_txt ha.2, cells_txt hb.2, run_equalIn_bytes w 9997 26 5 32 Try.underlying26 Try.underlying5 Try.sizeOf5 (txt a.ref) (txt b.ref) (by rw [txt_len, ha.1]) (by rw [txt_len, hb.1]), txt_beq ha.2 hb.2]
  have h := eqFields_cons h0 (by decide) p0 q0 e0 (eqFields_cons h1 (by decide) p1 q1 e1 (eqFields_cons h2 (by decide) p2 q2 e2 (eqFields_cons h3 (by decide) p3 q3 e3 eqFields_nil)))
  rw [h, ← eqDB_eq]
  rfl
theorem eql_draft (a b : DraftN) (ha : IdOk a.ref) (hb : IdOk b.ref) (w : World) : (binOp .eql 28 (.agg (draftV a)) (.agg (draftV b))).run Try.prog w = .ok (.bool (decide (a = b))) w := by
  rw [run_eql_struct, equal_draft a b ha hb]
  rfl
theorem guard_draft (x y : Operand) (u v : Array Value) (w : World) : (eqGuard .eql 28 x y (.agg u) (.agg v)).run Try.prog w = .ok () w := run_eqGuard_agg w .eql 28 x y u v (by kernel_rfl)
end Go.Proofs.Ytenmkfjgjemiiaa
namespace Go.Proofs.Ytenmkfjgjemiiaa
open Go.RowKit
section
variable {α : Type}
def Wide (K : Nat) (L : List (List α)) : Prop := ∀ x ∈ L, x.length = K
theorem Wide.getD {K : Nat} {L : List (List α)} (h : Wide K L) {i : Nat} (hi : i < L.length) : (L.getD i []).length = K := by
  rw [List.getD_eq_getElem?_getD, List.getElem?_eq_getElem hi]
  exact h _ (List.getElem_mem hi)
theorem Wide.set {K : Nat} {L : List (List α)} (h : Wide K L) (i : Nat) {x : List α} (hx : x.length = K) : Wide K (L.set i x) := fun z hz => by
  rcases List.mem_or_eq_of_mem_set hz with hz | rfl
  · exact h z hz
  · exact hx
theorem flat_len {K : Nat} {L : List (List α)} (h : Wide K L) : L.flatten.length = L.length * K := by
  induction L with
  | nil => simp
  | cons x L ih =>
    have h1 := h x (by simp)
    have h2 := ih fun y hy => h y (by simp [hy])
    rw [List.flatten_cons, List.length_append, h1, h2, List.length_cons, Nat.succ_mul]
    omega
theorem flat_get {K : Nat} {L : List (List α)} (h : Wide K L) : ∀ {i j : Nat}, i < L.length → j < K → L.flatten[K * i + j]? = (L.getD i [])[j]? := by
  induction L with
  | nil => intro i j hi _; cases hi
  | cons x L ih =>
    intro i j hi hj
    have h1 := h x (by simp)
    rw [List.flatten_cons]
    cases i with
    | zero => rw [Nat.mul_zero, Nat.zero_add, List.getElem?_append_left (by omega)]; rfl
    | succ i =>
      have e : K * (i + 1) + j = x.length + (K * i + j) := by rw [h1, Nat.mul_succ]; omega
      rw [e, List.getElem?_append_right (by omega), Nat.add_sub_cancel_left]
      exact ih (fun y hy => h y (by simp [hy])) (by simpa using hi) hj
end
def layV (xs : List Value) : Nat → List Value → List Value
  | _, [] => xs
  | o, v :: r => layV (xs.set o v) (o + 1) r
theorem layV_get : ∀ (vs : List Value) (xs : List Value) (o j : Nat), o + vs.length ≤ xs.length → (layV xs o vs)[j]? = if o ≤ j ∧ j < o + vs.length then vs[j - o]? else xs[j]?
  | [], xs, o, j, _ => by rw [layV, if_neg (by simp only [List.length_nil]; omega)]
  | v :: r, xs, o, j, h => by
    simp only [List.length_cons] at h ⊢
    rw [layV, layV_get r (xs.set o v) (o + 1) j (by rw [List.length_set]; omega)]
    by_cases h1 : o + 1 ≤ j ∧ j < o + 1 + r.length
    · rw [if_pos h1, if_pos (by omega), show j - o = (j - (o + 1)) + 1 by omega, List.getElem?_cons_succ]
    · rw [if_neg h1]
      by_cases h2 : j = o
      · subst h2
        rw [if_pos (by omega), Nat.sub_self, List.getElem?_set_self (by omega)]
        rfl
      · rw [if_neg (by omega), List.getElem?_set_ne (by omega)]
theorem block_of {K q n : Nat} (hK : 0 < K) : ∃ i m, q = K * i + m ∧ m < K ∧ (q < n * K → i < n) := by
  refine ⟨q / K, q % K, (Nat.div_add_mod q K).symm, Nat.mod_lt _ hK, fun h => ?_⟩
  exact (Nat.div_lt_iff_lt_mul hK).2 h
theorem flat_set {K : Nat} (hK : 0 < K) {L : List (List Value)} (hL : Wide K L) {i : Nat} (hi : i < L.length) {x : List Value} (hx : x.length = K) : (L.set i x).flatten = layV L.flatten (K * i) x := by
  have hfl := flat_len hL
  have hS := hL.set i hx
  have hin : K * i + K ≤ L.length * K := by
    have : K * (i + 1) ≤ K * L.length := Nat.mul_le_mul_left K hi
    rw [Nat.mul_succ] at this
    rw [Nat.mul_comm L.length]
    exact this
  refine List.ext_getElem? fun q => ?_
  rw [layV_get _ _ _ _ (by rw [hx, hfl]; exact hin), hx]
  obtain ⟨r, m, rfl, hm, hr⟩ := block_of (K := K) (q := q) (n := L.length) hK
  by_cases hrl : r < L.length
  · rw [flat_get hS (by rw [List.length_set]; exact hrl) hm, flat_get hL hrl hm]
    by_cases hq : r = i
    · subst hq
      rw [if_pos ⟨by omega, by omega⟩, Nat.add_sub_cancel_left]
      simp [List.getD_eq_getElem?_getD, List.getElem?_set_self hi]
    · rw [if_neg (by
        intro h
        rcases Nat.lt_or_gt_of_ne hq with h1 | h1
        · have := Nat.mul_le_mul_left K h1
          rw [Nat.succ_eq_add_one, Nat.mul_succ] at this
          omega
        · have := Nat.mul_le_mul_left K h1
          rw [Nat.succ_eq_add_one, Nat.mul_succ] at this
          omega)]
      simp [List.getD_eq_getElem?_getD, List.getElem?_set_ne (Ne.symm hq)]
  · have hge : L.length * K ≤ K * r + m := by
      have := Nat.mul_le_mul_left K (Nat.le_of_not_lt hrl)
      rw [Nat.mul_comm L.length]
      omega
    have h1 : (L.set i x).flatten.length ≤ K * r + m := by rw [flat_len hS, List.length_set]; exact hge
    have h2 : L.flatten.length ≤ K * r + m := by rw [hfl]; exact hge
    rw [if_neg (by omega), List.getElem?_eq_none h1, List.getElem?_eq_none h2]
theorem ownsRow_layV {B g n c size : Nat} {e : TypeId} : ∀ (vs xs : List Value) (o : Nat) (w : World), w.ownsRow B e size (.slice (some ⟨g, 0, none⟩) n c) n xs → (w.setCells g o vs).ownsRow B e size (.slice (some ⟨g, 0, none⟩) n c) n (layV xs o vs)
  | [], _, _, _, h => h
  | v :: r, _, o, _, h => ownsRow_layV r _ (o + 1) _ (World.ownsRow.stored h o v).1
theorem But.cells {b : Nat} {w : World} : ∀ (vs : List Value) (o : Nat) (w' : World), But b w w' → But b w (w'.setCells b o vs)
  | [], _, _, h => h
  | v :: r, o, _, h => But.cells r (o + 1) _ (h.setCell o v)
def RowK (K : Nat) (e : TypeId) (v : Value) (L : List (List Value)) (w : World) : Prop := w.ownsRow 0 e K v L.length L.flatten
section
variable {K : Nat} {e : TypeId} {v : Value} {L : List (List Value)} {w w' : World}
theorem RowK.form (h : RowK K e v L w) : ∃ ao cap, v = .slice ao L.length cap := by
  rcases h.2 with ⟨h1, h2⟩ | ⟨g, cap, _, h1, _⟩
  · exact ⟨_, _, by rw [h1, h2]⟩
  · exact ⟨_, _, h1⟩
theorem RowK.formB (h : RowK K e v L w) (h0 : 0 < L.length) : ∃ g cap, v = .slice (some ⟨g, 0, none⟩) L.length cap := by
  rcases h.2 with ⟨_, h2⟩ | ⟨g, cap, cur, h1, _⟩
  · omega
  · exact ⟨g, cap, h1⟩
theorem RowK.lt (h : RowK K e v L w) {g : Nat} (hg : v.ownBlock = some g) : g < w.heap.size := (World.ownsRow.lt h g hg).2
theorem RowK.at {g n c i : Nat} (hn : n = L.length) (h : RowK K e (.slice (some ⟨g, 0, none⟩) n c) L w) (hL : Wide K L) (hi : i < L.length) : w.rangeAt g (K * i) (L.getD i []) := fun j u hj => by
  subst hn
  have hjl := (List.getElem?_eq_some_iff.1 hj).1
  rw [hL.getD hi] at hjl
  have hlt : K * i + j < L.length * K := by
    have := Nat.mul_le_mul_left K hi
    rw [Nat.succ_eq_add_one, Nat.mul_succ] at this
    rw [Nat.mul_comm L.length]
    omega
  rw [World.ownsRow.cellAt h _ hlt, flat_get hL hi hjl]
  exact hj
end
section
variable {P : Program} {o : Oper} {a : Act} {w : World} {K : Act → World → Prop} {Q : Exit → Act → World → Prop}
theorem run_alloc_of (ty : TypeId) (z : List Value) (hz : (P.info? ty).bind (·.zero) = some (.agg z.toArray)) (w : World) : (Instr.alloc ty true (.tuple #[])).run P w = .ok (.pointer (some ⟨w.heap.size, 0, none⟩)) (w.alloc (.cells z.toArray ty)) := by
  obtain ⟨i, hi, hzz⟩ := Option.bind_eq_some_iff.1 hz
  simp [Instr.alloc, zeroValue, typeInfo, hi, hzz, go_sem]
theorem wpList_alloc_of {ops : Array Oper} {rest : List Oper} (hgd : o.guard = none) (ty : TypeId) (ho : o.op = .alloc ty) (z : List Value) (hz : (P.info? ty).bind (·.zero) = some (.agg z.toArray))
    (h : wpList P ops Q rest (a.put o.dst (.pointer (some ⟨w.heap.size, 0, none⟩))) (w.alloc (.cells z.toArray ty))) : wpList P ops Q (o :: rest) a w :=
  wpList_plain hgd fun _ hK => (op_alloc ty ho z.toArray (run_alloc_of ty z hz) (hK _ _ h)).out
theorem run_build_wide (t e : TypeId) (us : List Value) (z : Value) (bytes size : Nat) (ht : P.underlying t = some (.slice e)) (hinfo : (P.info? e).map (fun i => (i.zero, i.size, i.bytes)) = some (some z, size, bytes)) (hs : us.length = size) (h0 : 0 < size) (hsm : size ≤ 100000) (w : World) :
    (Instr.buildSlice t 1 #[(0, .agg us.toArray)]).run P w = .ok (.slice (some ⟨w.heap.size, 0, none⟩) 1 1) (w.alloc (.cells us.toArray e)) := by
  obtain ⟨i, hi, hz0, hz1, _⟩ := info_parts hinfo
  refine run_buildSlice (P := P) w t e 1 #[(0, .agg us.toArray)] us.toArray i z ht hi hz0 (by rw [hz1]; omega) (by rw [hz1]; omega) ?_
  rw [hz1]
  have h1 := Great.fill_whole (s := size) h0 [Value.agg us.toArray] ((Array.range (1 * size)).map (z.cells[· % z.cells.size]!))
    (fun v hv => by obtain rfl := List.mem_singleton.1 hv; show us.toArray.size = size; rw [List.size_toArray, hs]) (by simp)
  have e1 : (#[(0, Value.agg us.toArray)] : Array (Nat × Value)).toList = ([Value.agg us.toArray].zipIdx 0).map fun x => (x.2, x.1) := by simp [List.zipIdx_cons]
  have e2 : ([Value.agg us.toArray].flatMap fun v => v.cells.toList).toArray = us.toArray := by
    rw [List.flatMap_cons, List.flatMap_nil, List.append_nil]
    rfl
  rw [e1, h1, e2]
theorem op_build_wide (t e : TypeId) (x : Operand) (ho : o.op = .buildSlice t 1 #[(0, x)]) (us : List Value) (hx : a.eval x = .agg us.toArray)
    (hr : ∀ w, (Instr.buildSlice t 1 #[(0, .agg us.toArray)]).run P w = .ok (.slice (some ⟨w.heap.size, 0, none⟩) 1 1) (w.alloc (.cells us.toArray e)))
    (h : K (a.put o.dst (.slice (some ⟨w.heap.size, 0, none⟩) 1 1)) (w.alloc (.cells us.toArray e))) : OpWp P o a w K Q := by
  refine ⟨?_⟩
  have e1 : ((#[(0, x)] : Array (Nat × Operand)).map fun (i, x) => (i, a.eval x)) = #[(0, .agg us.toArray)] := by simp [hx]
  unfold Oper.wp execOp
  simp only [ho, e1, Sem.run_bind, Sem.run_pure, hr, Result.andThen_ok]
  exact h
end
end Go.Proofs.Ytenmkfjgjemiiaa
namespace Go.Proofs.Ytenmkfjgjemiiaa
open Go.RowKit Go.BigFrame
def entT (e : EntN) : List Value := [.int .i64 e.mask, .string ⟨e.pay.toArray⟩, .string ⟨e.sig.toArray⟩]
def entL (e : EntN) : List Value := [.int .i64 e.kind] ++ (draftL e.d ++ ([.int .i64 e.src, .int .i64 e.seq] ++ (nums .u8 e.prev ++ entT e)))
def entV (e : EntN) : Array Value := (entL e).toArray
theorem entL_len {e : EntN} (h : e.Ok) : (entL e).length = 73 := by
  simp only [entL, entT, List.length_append, draftL_len h.ref.1, nums_len, h.prev.1, List.length_cons, List.length_nil]
theorem entL_one (e : EntN) : ∀ u ∈ entL e, u.oneCell' = true := fun u hu => by
  simp only [entL, entT, List.mem_append, List.mem_cons, List.not_mem_nil, or_false] at hu
  rcases hu with rfl | hu | (rfl | rfl) | hu | (rfl | rfl | rfl)
  · rfl
  · exact draftL_one _ u hu
  · rfl
  · rfl
  · exact nums_one _ _ u hu
  · rfl
  · rfl
  · rfl
theorem entV_all (e : EntN) : (entV e).all (·.oneCell') = true := by
  rw [entV, List.all_toArray]
  exact List.all_eq_true.2 (entL_one e)
theorem entV_size {e : EntN} (h : e.Ok) : (entV e).size = 73 := entL_len h
theorem Try.sizeE : (Try.prog.info? 30).map (·.size) = some 73 := by kernel_rfl
theorem sizeEV {e : EntN} (h : e.Ok) : (Try.prog.info? 30).map (·.size) = some (entV e).size := by rw [entV_size h]; exact Try.sizeE
theorem sizeEL {e : EntN} (h : e.Ok) : (Try.prog.info? 30).map (·.size) = some (entL e).length := by rw [entL_len h]; exact Try.sizeE
theorem rangeAt_app {b o : Nat} {L M : List Value} {w : World} (h : w.rangeAt b o (L ++ M)) : w.rangeAt b o L ∧ w.rangeAt b (o + L.length) M := by
  refine ⟨fun j v hj => h j v ?_, fun j v hj => ?_⟩
  · have hl := (List.getElem?_eq_some_iff.1 hj).1
    rw [List.getElem?_append_left hl]
    exact hj
  · have h1 := h (L.length + j) v (by rw [List.getElem?_append_right (by omega), Nat.add_sub_cancel_left]; exact hj)
    rw [← Nat.add_assoc] at h1
    exact h1
structure EntAt (b o : Nat) (e : EntN) (w : World) : Prop where
  kind : w.cell? ⟨b, o, none⟩ = some (.int .i64 e.kind)
  draft : w.rangeAt b (o + 1) (draftL e.d)
  src : w.cell? ⟨b, o + 36, none⟩ = some (.int .i64 e.src)
  seq : w.cell? ⟨b, o + 37, none⟩ = some (.int .i64 e.seq)
  prev : w.rangeAt b (o + 38) (nums .u8 e.prev)
  mask : w.cell? ⟨b, o + 70, none⟩ = some (.int .i64 e.mask)
  pay : w.cell? ⟨b, o + 71, none⟩ = some (.string ⟨e.pay.toArray⟩)
  sig : w.cell? ⟨b, o + 72, none⟩ = some (.string ⟨e.sig.toArray⟩)
theorem ent_at {b o : Nat} {e : EntN} {w : World} (hok : e.Ok) (h : w.rangeAt b o (entL e)) : EntAt b o e w := by
  have hd := draftL_len hok.ref.1
  have hp := hok.prev.1
  obtain ⟨h0, h⟩ := rangeAt_app h
  obtain ⟨h1, h⟩ := rangeAt_app h
  obtain ⟨h2, h⟩ := rangeAt_app h
  obtain ⟨h3, h⟩ := rangeAt_app h
  simp only [List.length_cons, List.length_nil, hd, nums_len, hp, Nat.zero_add, Nat.reduceAdd, Nat.add_assoc] at h1 h2 h3 h
  exact ⟨h0 0 _ rfl, h1, h2 0 _ rfl, h2 1 _ rfl, h3, h 0 _ rfl, h 1 _ rfl, h 2 _ rfl⟩
theorem ent_range {g : Nat} {t : TypeId} {e : EntN} {w : World} (h : Cells g t (entV e) w) : w.rangeAt g 0 (entL e) := fun j v hj => by
  rw [Nat.zero_add, h.at, entV, List.getElem?_toArray]
  exact hj
theorem ent_cells {g : Nat} {t : TypeId} {e : EntN} {w : World} (hok : e.Ok) (h : Cells g t (entV e) w) :
    w.cell? ⟨g, 0, none⟩ = some (.int .i64 e.kind) ∧ w.rangeAt g 1 (draftL e.d) ∧ w.cell? ⟨g, 36, none⟩ = some (.int .i64 e.src) ∧ w.cell? ⟨g, 37, none⟩ = some (.int .i64 e.seq) ∧ w.rangeAt g 38 (nums .u8 e.prev) ∧
    w.cell? ⟨g, 70, none⟩ = some (.int .i64 e.mask) ∧ w.cell? ⟨g, 71, none⟩ = some (.string ⟨e.pay.toArray⟩) ∧ w.cell? ⟨g, 72, none⟩ = some (.string ⟨e.sig.toArray⟩) := by
  have k := ent_at hok (ent_range h)
  have h1 := k.draft
  have h3 := k.src
  have h4 := k.seq
  have h5 := k.prev
  have h6 := k.mask
  have h7 := k.pay
  have h8 := k.sig
  simp only [Nat.zero_add] at h1 h3 h4 h5 h6 h7 h8
  exact ⟨k.kind, h1, h3, h4, h5, h6, h7, h8⟩
theorem draft_mid {g o : Nat} {d : DraftN} {w : World} (h : w.rangeAt g o (draftL d)) : w.cell? ⟨g, o, none⟩ = some (.int .i64 d.kind) ∧ w.cell? ⟨g, o + 1, none⟩ = some (.string ⟨d.key.toArray⟩) ∧ w.cell? ⟨g, o + 2, none⟩ = some (.string ⟨d.val.toArray⟩) ∧ w.rangeAt g (o + 3) (nums .u8 d.ref) := by
  refine ⟨h 0 _ rfl, h 1 _ rfl, h 2 _ rfl, fun j v hj => ?_⟩
  have h1 := h (j + 3) v (by
    rw [draftL, List.getElem?_cons_succ, List.getElem?_cons_succ, List.getElem?_cons_succ]
    exact hj)
  rw [show o + (j + 3) = o + 3 + j by omega] at h1
  exact h1
def placeE : Nat → Option (Nat × Nat) := fun i => (#[(0, 1), (1, 35), (36, 1), (37, 1), (38, 32), (70, 1), (71, 1), (72, 1)] : Array (Nat × Nat))[i]?
theorem ent_fill (parts : List (Nat × Value)) : Try.prog.built 30 parts = Instr.fill placeE (entV noE) parts := by kernel_rfl
theorem built_ent0 : Try.prog.built 30 [] = some (entV noE) := by rw [ent_fill]; rfl
theorem fill_ent (i off size : Nat) (v : Value) (rest : List (Nat × Value)) (a b : EntN) (xs ys zs vs : List Value) (hp : placeE i = some (off, size)) (ha : entL a = xs ++ (ys ++ zs)) (hb : entL b = xs ++ (vs ++ zs)) (hv : v.cells.toList = vs) (h1 : vs.length = size) (h2 : ys.length = size) (h3 : xs.length = off) :
    Instr.fill placeE (entV a) ((i, v) :: rest) = Instr.fill placeE (entV b) rest := by
  rw [entV, entV, ha, hb]
  exact fill_lay placeE i off size v rest xs ys zs vs hp hv h1 h2 h3
section
variable (a : EntN) (rest : List (Nat × Value))
theorem fill_kind (k : Int) : Instr.fill placeE (entV a) ((0, .int .i64 k) :: rest) = Instr.fill placeE (entV { a with kind := k }) rest :=
  fill_ent 0 0 1 _ rest a { a with kind := k } [] [.int .i64 a.kind] _ [.int .i64 k] rfl rfl rfl rfl rfl rfl rfl
theorem fill_draft (ha : a.Ok) (d : DraftN) (hd : IdOk d.ref) : Instr.fill placeE (entV a) ((1, .agg (draftV d)) :: rest) = Instr.fill placeE (entV { a with d := d }) rest :=
  fill_ent 1 1 35 _ rest a { a with d := d } [.int .i64 a.kind] (draftL a.d) _ (draftL d) rfl rfl rfl rfl (draftL_len hd.1) (draftL_len ha.ref.1) rfl
theorem fill_src (ha : a.Ok) (k : Int) : Instr.fill placeE (entV a) ((2, .int .i64 k) :: rest) = Instr.fill placeE (entV { a with src := k }) rest :=
  fill_ent 2 36 1 _ rest a { a with src := k } ([.int .i64 a.kind] ++ draftL a.d) [.int .i64 a.src] ([.int .i64 a.seq] ++ (nums .u8 a.prev ++ entT a)) [.int .i64 k] rfl (by simp [entL, entT]) (by simp [entL, entT]) rfl rfl rfl (by rw [List.length_append, draftL_len ha.ref.1]; rfl)
theorem fill_seq (ha : a.Ok) (k : Int) : Instr.fill placeE (entV a) ((3, .int .i64 k) :: rest) = Instr.fill placeE (entV { a with seq := k }) rest :=
  fill_ent 3 37 1 _ rest a { a with seq := k } ([.int .i64 a.kind] ++ (draftL a.d ++ [.int .i64 a.src])) [.int .i64 a.seq] (nums .u8 a.prev ++ entT a) [.int .i64 k] rfl (by simp [entL, entT]) (by simp [entL, entT]) rfl rfl rfl (by simp [draftL_len ha.ref.1])
theorem fill_mask (ha : a.Ok) (k : Int) : Instr.fill placeE (entV a) ((5, .int .i64 k) :: rest) = Instr.fill placeE (entV { a with mask := k }) rest :=
  fill_ent 5 70 1 _ rest a { a with mask := k } ([.int .i64 a.kind] ++ (draftL a.d ++ ([.int .i64 a.src, .int .i64 a.seq] ++ nums .u8 a.prev))) [.int .i64 a.mask] [.string ⟨a.pay.toArray⟩, .string ⟨a.sig.toArray⟩] [.int .i64 k] rfl (by simp [entL, entT]) (by simp [entL, entT]) rfl rfl rfl (by simp [draftL_len ha.ref.1, nums_len, ha.prev.1])
theorem fill_pay (ha : a.Ok) (s : List UInt8) : Instr.fill placeE (entV a) ((6, .string ⟨s.toArray⟩) :: rest) = Instr.fill placeE (entV { a with pay := s }) rest :=
  fill_ent 6 71 1 _ rest a { a with pay := s } ([.int .i64 a.kind] ++ (draftL a.d ++ ([.int .i64 a.src, .int .i64 a.seq] ++ (nums .u8 a.prev ++ [.int .i64 a.mask])))) [.string ⟨a.pay.toArray⟩] [.string ⟨a.sig.toArray⟩] [.string ⟨s.toArray⟩] rfl (by simp [entL, entT]) (by simp [entL, entT]) rfl rfl rfl (by simp [draftL_len ha.ref.1, nums_len, ha.prev.1])
theorem fill_sig (ha : a.Ok) (s : List UInt8) : Instr.fill placeE (entV a) ((7, .string ⟨s.toArray⟩) :: rest) = Instr.fill placeE (entV { a with sig := s }) rest :=
  fill_ent 7 72 1 _ rest a { a with sig := s } ([.int .i64 a.kind] ++ (draftL a.d ++ ([.int .i64 a.src, .int .i64 a.seq] ++ (nums .u8 a.prev ++ [.int .i64 a.mask, .string ⟨a.pay.toArray⟩])))) [.string ⟨a.sig.toArray⟩] [] [.string ⟨s.toArray⟩] rfl (by simp [entL, entT]) (by simp [entL, entT]) rfl rfl rfl (by simp [draftL_len ha.ref.1, nums_len, ha.prev.1])
end
def outE (m : Int) (p : List UInt8) : EntN := ⟨3, noD, 0, 0, zeroI, m, p, []⟩
theorem outE_ok (m : Int) (p : List UInt8) : (outE m p).Ok := ⟨zeroI_ok, zeroI_ok⟩
theorem built_out (m : Int) (p : List UInt8) : Try.prog.built 30 [(0, .int .i64 3), (5, .int .i64 m), (6, .string ⟨p.toArray⟩)] = some (entV (outE m p)) := by
  rw [ent_fill, fill_kind, fill_mask _ _ ⟨zeroI_ok, zeroI_ok⟩, fill_pay _ _ ⟨zeroI_ok, zeroI_ok⟩, fill_end]
  rfl
theorem ent_fields : (Try.prog.fieldsOf 30).toList.map (fun f => (f.name, f.type, f.offset)) = [("Kind", 3, 0), ("Draft", 28, 1), ("From", 3, 36), ("Seq", 3, 37), ("Prev", 26, 38), ("Mask", 3, 70), ("Payload", 9, 71), ("Sig", 9, 72)] := by kernel_rfl
theorem fields8 {l : List Field} {a b c d e f g h : String × TypeId × Nat} (hl : l.map (fun f => (f.name, f.type, f.offset)) = [a, b, c, d, e, f, g, h]) : ∃ f0 f1 f2 f3 f4 f5 f6 f7, l = [f0, f1, f2, f3, f4, f5, f6, f7] ∧ (f0.name, f0.type, f0.offset) = a ∧ (f1.name, f1.type, f1.offset) = b ∧ (f2.name, f2.type, f2.offset) = c ∧ (f3.name, f3.type, f3.offset) = d ∧ (f4.name, f4.type, f4.offset) = e ∧ (f5.name, f5.type, f5.offset) = f ∧ (f6.name, f6.type, f6.offset) = g ∧ (f7.name, f7.type, f7.offset) = h := by
  have hn := congrArg List.length hl
  rw [List.length_map] at hn
  simp only [List.length_cons, List.length_nil] at hn
  match l, hn with
  | [f0, f1, f2, f3, f4, f5, f6, f7], _ =>
    simp only [List.map_cons, List.map_nil, List.cons.injEq, and_true] at hl
    exact ⟨f0, f1, f2, f3, f4, f5, f6, f7, rfl, hl⟩
theorem ext_mid (xs ys zs : List Value) (n m : Nat) (h1 : xs.length = n) (h2 : ys.length = m) : (xs ++ (ys ++ zs)).toArray.extract n (n + m) = ys.toArray := by
  apply Array.ext'
  rw [List.extract_toArray, List.toList_toArray, List.extract_eq_take_drop, ← h1, List.drop_left, ← h2, Nat.add_sub_cancel_left, List.take_left]
theorem get_mid (xs : List Value) (y : Value) (zs : List Value) (n : Nat) (h1 : xs.length = n) : (xs ++ (y :: zs)).toArray[n]? = some y := by
  rw [List.getElem?_toArray, List.getElem?_append_right (by omega), h1, Nat.sub_self]
  rfl
theorem ent_part (e : EntN) (he : e.Ok) (w : World) : (Go.part 3 (entV e) 0).run Try.prog w = .ok (.int .i64 e.kind) w ∧ (Go.part 28 (entV e) 1).run Try.prog w = .ok (.agg (draftV e.d)) w ∧
    (Go.part 3 (entV e) 36).run Try.prog w = .ok (.int .i64 e.src) w ∧ (Go.part 3 (entV e) 37).run Try.prog w = .ok (.int .i64 e.seq) w ∧ (Go.part 26 (entV e) 38).run Try.prog w = .ok (.agg (nums .u8 e.prev).toArray) w ∧
    (Go.part 3 (entV e) 70).run Try.prog w = .ok (.int .i64 e.mask) w ∧ (Go.part 9 (entV e) 71).run Try.prog w = .ok (.string ⟨e.pay.toArray⟩) w ∧ (Go.part 9 (entV e) 72).run Try.prog w = .ok (.string ⟨e.sig.toArray⟩) w := by
  have hd := draftL_len he.ref.1
  have hp := he.prev.1
  refine ⟨part_cell (by kernel_rfl) rfl, part_row (n := 35) (by kernel_rfl) (by kernel_rfl) (ext_mid [.int .i64 e.kind] (draftL e.d) _ 1 35 rfl hd), part_cell (by kernel_rfl) ?_, part_cell (by kernel_rfl) ?_, part_row (n := 32) (by kernel_rfl) (by kernel_rfl) ?_, part_cell (by kernel_rfl) ?_, part_cell (by kernel_rfl) ?_, part_cell (by kernel_rfl) ?_⟩
  · have h := get_mid ([.int .i64 e.kind] ++ draftL e.d) (.int .i64 e.src) ([.int .i64 e.seq] ++ (nums .u8 e.prev ++ entT e)) 36 (by simp [hd])
    rw [← h]
    simp [entV, entL]
  · have h := get_mid ([.int .i64 e.kind] ++ (draftL e.d ++ [.int .i64 e.src])) (.int .i64 e.seq) (nums .u8 e.prev ++ entT e) 37 (by simp [hd])
    rw [← h]
    simp [entV, entL]
  · have h := ext_mid ([.int .i64 e.kind] ++ (draftL e.d ++ [.int .i64 e.src, .int .i64 e.seq])) (nums .u8 e.prev) (entT e) 38 32 (by simp [hd]) (by rw [nums_len, hp])
    rw [← h]
    simp [entV, entL]
  · have h := get_mid ([.int .i64 e.kind] ++ (draftL e.d ++ ([.int .i64 e.src, .int .i64 e.seq] ++ nums .u8 e.prev))) (.int .i64 e.mask) [.string ⟨e.pay.toArray⟩, .string ⟨e.sig.toArray⟩] 70 (by simp [hd, nums_len, hp])
    rw [← h]
    simp [entV, entL, entT]
  · have h := get_mid ([.int .i64 e.kind] ++ (draftL e.d ++ ([.int .i64 e.src, .int .i64 e.seq] ++ (nums .u8 e.prev ++ [.int .i64 e.mask])))) (.string ⟨e.pay.toArray⟩) [.string ⟨e.sig.toArray⟩] 71 (by simp [hd, nums_len, hp])
    rw [← h]
    simp [entV, entL, entT]
  · have h := get_mid ([.int .i64 e.kind] ++ (draftL e.d ++ ([.int .i64 e.src, .int .i64 e.seq] ++ (nums .u8 e.prev ++ [.int .i64 e.mask, .string ⟨e.pay.toArray⟩])))) (.string ⟨e.sig.toArray⟩) [] 72 (by simp [hd, nums_len, hp])
    rw [← h]
    simp [entV, entL, entT]
theorem equal_draft_at (k : Nat) (a b : DraftN) (ha : IdOk a.ref) (hb : IdOk b.ref) (w : World) :
    (Op.equalIn (k + 3) 28 (.agg (draftV a)) (.agg (draftV b))).run Try.prog w = .ok (decide (a = b)) w := by
  have hs := run_equalIn_struct (P := Try.prog) w (k + 2) 28 (draftV a) (draftV b) (by kernel_rfl) (by kernel_rfl)
  rw [show k + 2 + 1 = k + 3 from rfl] at hs
  rw [hs]
  obtain ⟨f0, f1, f2, f3, hf, h0, h1, h2, h3⟩ := fields4 draft_fields
  rw [hf]
  obtain ⟨p0, p1, p2, p3⟩ := draft_part a ha.1 w
  obtain ⟨q0, q1, q2, q3⟩ := draft_part b hb.1 w
  have e0 := run_equalIn_int (P := Try.prog) w (k + 1) 3 .i64 .i64 a.kind b.kind Try.underlying3
  have e1 := run_equal_text (P := Try.prog) (w := w) (k + 1) 9 a.key b.key Try.underlying9
  have e2 := run_equal_text (P := Try.prog) (w := w) (k + 1) 9 a.val b.val Try.underlying9
  have e3 : (Op.equalIn (k + 2) 26 (.agg (nums .u8 a.ref).toArray) (.agg (nums .u8 b.ref).toArray)).run Try.prog w = .ok (a.ref == b.ref) w := by
    rw [cells_txt ha.2, cells_txt hb.2, run_equalIn_bytes w k 26 5 32 Try.underlying26 Try.underlying5 Try.sizeOf5 (txt a.ref) (txt b.ref) (by rw [txt_len, ha.1]) (by rw [txt_len, hb.1]), txt_beq ha.2 hb.2]
  have h := eqFields_cons h0 (by decide) p0 q0 e0 (eqFields_cons h1 (by decide) p1 q1 e1 (eqFields_cons h2 (by decide) p2 q2 e2 (eqFields_cons h3 (by decide) p3 q3 e3 eqFields_nil)))
  rw [h, ← eqDB_eq]
  rfl
def eqEB (a b : EntN) : Bool := (a.kind == b.kind) && (decide (a.d = b.d) && ((a.src == b.src) && ((a.seq == b.seq) && ((a.prev == b.prev) && ((a.mask == b.mask) && ((a.pay == b.pay) && ((a.sig == b.sig) && true)))))))
theorem eqEB_eq (a b : EntN) : eqEB a b = decide (a = b) := by
  obtain ⟨a1, a2, a3, a4, a5, a6, a7, a8⟩ := a
  obtain ⟨b1, b2, b3, b4, b5, b6, b7, b8⟩ := b
  simp only [eqEB, EntN.mk.injEq]
  rw [Bool.eq_iff_iff]
  simp
theorem equal_ent (a b : EntN) (ha : a.Ok) (hb : b.Ok) (w : World) :
    (Op.equalIn 10000 30 (.agg (entV a)) (.agg (entV b))).run Try.prog w = .ok (decide (a = b)) w := by
  have hs := run_equalIn_struct (P := Try.prog) w 9999 30 (entV a) (entV b) (by kernel_rfl) (by kernel_rfl)
  rw [show 9999 + 1 = 10000 from rfl] at hs
  rw [hs]
  obtain ⟨f0, f1, f2, f3, f4, f5, f6, f7, hf, h0, h1, h2, h3, h4, h5, h6, h7⟩ := fields8 ent_fields
  rw [hf]
  obtain ⟨p0, p1, p2, p3, p4, p5, p6, p7⟩ := ent_part a ha w
  obtain ⟨q0, q1, q2, q3, q4, q5, q6, q7⟩ := ent_part b hb w
  have e0 := run_equalIn_int (P := Try.prog) w 9998 3 .i64 .i64 a.kind b.kind Try.underlying3
  have e1 := equal_draft_at 9996 a.d b.d ha.ref hb.ref w
  have e2 := run_equalIn_int (P := Try.prog) w 9998 3 .i64 .i64 a.src b.src Try.underlying3
  have e3 := run_equalIn_int (P := Try.prog) w 9998 3 .i64 .i64 a.seq b.seq Try.underlying3
  have e4 : (Op.equalIn 9999 26 (.agg (nums .u8 a.prev).toArray) (.agg (nums .u8 b.prev).toArray)).run Try.prog w = .ok (a.prev == b.prev) w := by
    rw [cells_txt ha.prev.2, cells_txt hb.prev.2, run_equalIn_bytes w 9997 26 5 32 Try.underlying26 Try.underlying5 Try.sizeOf5 (txt a.prev) (txt b.prev) (by rw [txt_len, ha.prev.1]) (by rw [txt_len, hb.prev.1]), txt_beq ha.prev.2 hb.prev.2]
  have e5 := run_equalIn_int (P := Try.prog) w 9998 3 .i64 .i64 a.mask b.mask Try.underlying3
  have e6 := run_equal_text (P := Try.prog) (w := w) 9998 9 a.pay b.pay Try.underlying9
  have e7 := run_equal_text (P := Try.prog) (w := w) 9998 9 a.sig b.sig Try.underlying9
  have h := eqFields_cons h0 (by decide) p0 q0 e0 (eqFields_cons h1 (by decide) p1 q1 e1 (eqFields_cons h2 (by decide) p2 q2 e2 (eqFields_cons h3 (by decide) p3 q3 e3 (eqFields_cons h4 (by decide) p4 q4 e4 (eqFields_cons h5 (by decide) p5 q5 e5 (eqFields_cons h6 (by decide) p6 q6 e6 (eqFields_cons h7 (by decide) p7 q7 e7 eqFields_nil)))))))
  rw [h, ← eqEB_eq]
  rfl
theorem eql_ent (a b : EntN) (ha : a.Ok) (hb : b.Ok) (w : World) : (binOp .eql 30 (.agg (entV a)) (.agg (entV b))).run Try.prog w = .ok (.bool (decide (a = b))) w := by
  rw [run_eql_struct, equal_ent a b ha hb]
  rfl
theorem neq_ent (a b : EntN) (ha : a.Ok) (hb : b.Ok) (w : World) : (binOp .neq 30 (.agg (entV a)) (.agg (entV b))).run Try.prog w = .ok (.bool (!decide (a = b))) w := by
  rw [run_neq_struct, equal_ent a b ha hb]
  rfl
theorem guard_ent (op : BinOp) (hop : op = .eql ∨ op = .neq) (x y : Operand) (u v : Array Value) (w : World) : (eqGuard op 30 x y (.agg u) (.agg v)).run Try.prog w = .ok () w := by
  rcases hop with rfl | rfl
  · exact run_eqGuard_agg w .eql 30 x y u v (by kernel_rfl)
  · exact run_eqGuard_agg w .neq 30 x y u v (by kernel_rfl)
theorem set_ent (n : Nat) (a b : EntN) (xs zs : List Value) (y u : Value) (ha : entL a = xs ++ (y :: zs)) (hb : entL b = xs ++ (u :: zs)) (hn : xs.length = n) : (entV a).setIfInBounds n u = entV b := by
  rw [entV, entV, List.setIfInBounds_toArray, ha, hb, List.set_append_right _ _ (by omega), hn, Nat.sub_self, List.set_cons_zero]
section
variable (a : EntN) (ha : a.Ok)
include ha
omit ha in
theorem set_kind (k : Int) : (entV a).setIfInBounds 0 (.int .i64 k) = entV { a with kind := k } :=
  set_ent 0 a { a with kind := k } [] _ _ _ rfl rfl rfl
theorem set_src (k : Int) : (entV a).setIfInBounds 36 (.int .i64 k) = entV { a with src := k } :=
  set_ent 36 a { a with src := k } ([.int .i64 a.kind] ++ draftL a.d) ([.int .i64 a.seq] ++ (nums .u8 a.prev ++ entT a)) (.int .i64 a.src) _ (by simp [entL, entT]) (by simp [entL, entT]) (by rw [List.length_append, draftL_len ha.ref.1]; rfl)
theorem set_seq (k : Int) : (entV a).setIfInBounds 37 (.int .i64 k) = entV { a with seq := k } :=
  set_ent 37 a { a with seq := k } ([.int .i64 a.kind] ++ (draftL a.d ++ [.int .i64 a.src])) (nums .u8 a.prev ++ entT a) (.int .i64 a.seq) _ (by simp [entL, entT]) (by simp [entL, entT]) (by simp [draftL_len ha.ref.1])
theorem set_mask (k : Int) : (entV a).setIfInBounds 70 (.int .i64 k) = entV { a with mask := k } :=
  set_ent 70 a { a with mask := k } ([.int .i64 a.kind] ++ (draftL a.d ++ ([.int .i64 a.src, .int .i64 a.seq] ++ nums .u8 a.prev))) [.string ⟨a.pay.toArray⟩, .string ⟨a.sig.toArray⟩] (.int .i64 a.mask) _ (by simp [entL, entT]) (by simp [entL, entT]) (by simp [draftL_len ha.ref.1, nums_len, ha.prev.1])
theorem set_pay (s : List UInt8) : (entV a).setIfInBounds 71 (.string ⟨s.toArray⟩) = entV { a with pay := s } :=
  set_ent 71 a { a with pay := s } ([.int .i64 a.kind] ++ (draftL a.d ++ ([.int .i64 a.src, .int .i64 a.seq] ++ (nums .u8 a.prev ++ [.int .i64 a.mask])))) [.string ⟨a.sig.toArray⟩] (.string ⟨a.pay.toArray⟩) _ (by simp [entL, entT]) (by simp [entL, entT]) (by simp [draftL_len ha.ref.1, nums_len, ha.prev.1])
theorem set_sig (s : List UInt8) : (entV a).setIfInBounds 72 (.string ⟨s.toArray⟩) = entV { a with sig := s } :=
  set_ent 72 a { a with sig := s } ([.int .i64 a.kind] ++ (draftL a.d ++ ([.int .i64 a.src, .int .i64 a.seq] ++ (nums .u8 a.prev ++ [.int .i64 a.mask, .string ⟨a.pay.toArray⟩])))) [] (.string ⟨a.sig.toArray⟩) _ (by simp [entL, entT]) (by simp [entL, entT]) (by simp [draftL_len ha.ref.1, nums_len, ha.prev.1])
theorem set_prev (i x : Nat) (hi : i < 32) : (entV a).setIfInBounds (38 + i) (.int .u8 (x : Int)) = entV { a with prev := a.prev.set i x } := by
  have hp := ha.prev.1
  have hd := draftL_len ha.ref.1
  have hl : ([.int .i64 a.kind] ++ (draftL a.d ++ [.int .i64 a.src, .int .i64 a.seq]) : List Value).length = 38 := by simp [hd]
  have e1 : entL a = ([.int .i64 a.kind] ++ (draftL a.d ++ [.int .i64 a.src, .int .i64 a.seq])) ++ (nums .u8 a.prev ++ entT a) := by simp [entL]
  have e2 : entL { a with prev := a.prev.set i x } = ([.int .i64 a.kind] ++ (draftL a.d ++ [.int .i64 a.src, .int .i64 a.seq])) ++ (nums .u8 (a.prev.set i x) ++ entT a) := by simp [entL, entT]
  rw [entV, entV, List.setIfInBounds_toArray, e1, e2, List.set_append_right _ _ (by omega), hl, Nat.add_sub_cancel_left, List.set_append_left _ _ (by rw [nums_len, hp]; exact hi), nums_set]
end
theorem layV_mid : ∀ (vs xs ys zs : List Value), vs.length = ys.length → layV (xs ++ (ys ++ zs)) xs.length vs = xs ++ (vs ++ zs)
  | [], xs, ys, zs, h => by
    obtain rfl : ys = [] := List.length_eq_zero_iff.1 h.symm
    rfl
  | v :: r, xs, ys, zs, h => by
    cases ys with
    | nil => cases h
    | cons y ys =>
      have ih := layV_mid r (xs ++ [v]) ys zs (by simpa using h)
      rw [List.length_append, List.length_singleton] at ih
      rw [layV, List.cons_append, List.set_append_right _ _ (Nat.le_refl _), Nat.sub_self, List.set_cons_zero]
      simpa using ih
theorem lay_draft (a : EntN) (ha : a.Ok) (d : DraftN) (hd : IdOk d.ref) : layV (entL a) 1 (draftL d) = entL { a with d := d } :=
  layV_mid (draftL d) [.int .i64 a.kind] (draftL a.d) _ (by rw [draftL_len hd.1, draftL_len ha.ref.1])
theorem Cells.there {g o n : Nat} {t : TypeId} {cs : Array Value} {w : World} (h : Cells g t cs w) (hn : o + n ≤ cs.size) : w.there g o n := fun j hj => by
  rw [h.at, Array.getElem?_eq_getElem (by omega)]
  exact ⟨rfl, h.frozen _⟩
structure EntN.Len (e : EntN) : Prop where
  ok : e.Ok
  key : e.d.key.length ≤ 140737488351232
  val : e.d.val.length ≤ 140737488351232
  pay : e.pay.length ≤ 140737488351232
  sig : e.sig.length ≤ 140737488351232
theorem GoodE.len {e : EntN} (h : GoodE e) (ho : e.Ok) : e.Len := by
  rcases h with ⟨-, hd, ⟨-, -, -, hs⟩, -, hy⟩ | ⟨-, ⟨-, -, h3⟩, hd, -, -, -, hs⟩ | ⟨-, ⟨-, -, h3⟩, hd, -, -, -, hs⟩
  · exact ⟨ho, Nat.le_trans hd.2.2.2.1 (by decide), Nat.le_trans hd.2.2.2.2.1 (by decide), by rw [hy]; exact Nat.zero_le _, by rw [hs]; exact Nat.zero_le _⟩
  · exact ⟨ho, by rw [hd]; exact Nat.zero_le _, by rw [hd]; exact Nat.zero_le _, Nat.le_trans h3 (by decide), Nat.le_trans hs (by decide)⟩
  · exact ⟨ho, by rw [hd]; exact Nat.zero_le _, by rw [hd]; exact Nat.zero_le _, Nat.le_trans h3 (by decide), by rw [hs]; exact Nat.zero_le _⟩
theorem noE_len : noE.Len := ⟨noE_ok, Nat.zero_le _, Nat.zero_le _, Nat.zero_le _, Nat.zero_le _⟩
end Go.Proofs.Ytenmkfjgjemiiaa
namespace Go.Proofs.Ytenmkfjgjemiiaa
open Go.RowKit Go.BigFrame
def fitsK (d : DraftN) : Bool := if d.kind = 1 ∨ d.kind = 2 ∨ d.kind = 3 then (d.ref == zeroI) else if d.kind = 4 then true else if d.kind = 5 then !(d.ref == zeroI) && d.val == [] else false
theorem good_fits (d : DraftN) : GoodD d ↔ 1 ≤ d.key.length ∧ d.key.length ≤ 16 ∧ d.val.length ≤ 64 ∧ fitsK d = true := by
  unfold GoodD fitsK
  constructor
  · rintro ⟨h1, h2, h3, h4, h5, h6, h7⟩
    refine ⟨h3, h4, h5, ?_⟩
    split
    · rw [h6 (by omega)]; simp
    · split
      · rfl
      · split
        · obtain ⟨a, b⟩ := h7 (by omega)
          simp [a, b]
        · omega
  · rintro ⟨h3, h4, h5, h⟩
    split at h
    · exact ⟨by omega, by omega, h3, h4, h5, fun _ => by simpa using h, fun h => by omega⟩
    · split at h
      · exact ⟨by omega, by omega, h3, h4, h5, fun h => by omega, fun h => by omega⟩
      · split at h
        · simp at h
          exact ⟨by omega, by omega, h3, h4, h5, fun h => by omega, fun _ => h⟩
        · cases h
set_option maxHeartbeats 2000000 in
set_option maxRecDepth 100000 in
theorem dev_fitsKind (d : DraftN) (hr : IdOk d.ref) (w : World) :
    Calls Try.prog 40 #[.agg (draftV d)] w fun e w' => e = .returned (.bool (fitsK d)) ∧ Below w.heap.size w w' := by
  have hx : Cells w.heap.size 28 (draftV d) (w.alloc (.cells (draftV d) 28)) := heap_alloc_new w _
  have hb : Below w.heap.size w (w.alloc (.cells (draftV d) 28)) := (Below.refl _ _).alloc (Nat.le_refl _) _
  obtain ⟨c0, c1, c2, c3⟩ := draft_cells hx
  have HC3 := Lib.hid c3
  have HB := Lib.hid hb
  have heq := fun w' => equal_idI d.ref zeroI hr.1 zeroI_ok.1 hr.2 zeroI_ok.2 w'
  have HI := Lib.hid (show (Try.prog.info? 26).map (·.size) = some d.ref.length by rw [hr.1]; exact Try.sizeI)
  obtain ⟨k, hkd⟩ : ∃ k, d.kind = k := ⟨_, rfl⟩
  obtain ⟨z, hz2⟩ : ∃ z, (d.ref == zeroI) = z := ⟨_, rfl⟩
  have HG := Shut.mk (show fitsK d = if k = 1 ∨ k = 2 ∨ k = 3 then z else if k = 4 then true else if k = 5 then !z && d.val == [] else false by rw [fitsK, hkd, hz2])
  rw [hkd] at c0
  rw [hz2, zeroI_lit] at heq
  clear hx hb c3 hz2
  by_cases h1 : k = 1
  · subst h1
    have hgd : fitsK d = z := HG.out
    rw [hgd]
    clear hgd
    go_enter Try.func40, Try.ntmps40
    cases z <;> go_wp2_with (refine wpList_load_id rfl 26 _ rfl w.heap.size 3 d.ref _ rfl HC3.out Try.underlying26 rfl HI.out ?_)
    all_goals
      go_ret
      exact ⟨rfl, HB.out⟩
  by_cases h2 : k = 2
  · subst h2
    have hgd : fitsK d = z := HG.out
    rw [hgd]
    clear hgd
    go_enter Try.func40, Try.ntmps40
    cases z <;> go_wp2_with (refine wpList_load_id rfl 26 _ rfl w.heap.size 3 d.ref _ rfl HC3.out Try.underlying26 rfl HI.out ?_)
    all_goals
      go_ret
      exact ⟨rfl, HB.out⟩
  by_cases h3 : k = 3
  · subst h3
    have hgd : fitsK d = z := HG.out
    rw [hgd]
    clear hgd
    go_enter Try.func40, Try.ntmps40
    cases z <;> go_wp2_with (refine wpList_load_id rfl 26 _ rfl w.heap.size 3 d.ref _ rfl HC3.out Try.underlying26 rfl HI.out ?_)
    all_goals
      go_ret
      exact ⟨rfl, HB.out⟩
  by_cases h4 : k = 4
  · subst h4
    have hgd : fitsK d = true := HG.out
    rw [hgd]
    clear hgd
    go_enter Try.func40, Try.ntmps40
    cases z <;> go_wp2_with (refine wpList_load_id rfl 26 _ rfl w.heap.size 3 d.ref _ rfl HC3.out Try.underlying26 rfl HI.out ?_)
    all_goals
      go_ret
      exact ⟨rfl, HB.out⟩
  by_cases h5 : k = 5
  · subst h5
    have hgd : fitsK d = (!z && d.val == []) := HG.out
    rw [hgd]
    clear hgd
    go_enter Try.func40, Try.ntmps40
    cases z <;> go_wp2_with (refine wpList_load_id rfl 26 _ rfl w.heap.size 3 d.ref _ rfl HC3.out Try.underlying26 rfl HI.out ?_)
    all_goals
      go_ret
      exact ⟨rfl, HB.out⟩
  have t1 : (k == 1) = false := by simp [h1]
  have t2 : (k == 2) = false := by simp [h2]
  have t3 : (k == 3) = false := by simp [h3]
  have t4 : (k == 4) = false := by simp [h4]
  have t5 : (k == 5) = false := by simp [h5]
  have hgd : fitsK d = false := by rw [HG.out, if_neg (by omega), if_neg h4, if_neg h5]
  rw [hgd]
  clear hgd
  go_enter Try.func40, Try.ntmps40
  cases z <;> go_wp2_with (refine wpList_load_id rfl 26 _ rfl w.heap.size 3 d.ref _ rfl HC3.out Try.underlying26 rfl HI.out ?_)
  all_goals
    go_ret
    exact ⟨rfl, HB.out⟩
set_option maxHeartbeats 2000000 in
set_option maxRecDepth 100000 in
theorem dev_goodDraft (d : DraftN) (hr : IdOk d.ref) (hk : d.key.length ≤ 140737488351232) (hv : d.val.length ≤ 140737488351232) (w : World) :
    Calls Try.prog 24 #[.agg (draftV d)] w fun e w' => e = .returned (.bool (decide (GoodD d))) ∧ Below w.heap.size w w' := by
  have hx : Cells w.heap.size 28 (draftV d) (w.alloc (.cells (draftV d) 28)) := heap_alloc_new w _
  have hb : Below w.heap.size w (w.alloc (.cells (draftV d) 28)) := (Below.refl _ _).alloc (Nat.le_refl _) _
  obtain ⟨c0, c1, c2, c3⟩ := draft_cells hx
  have HX := Lib.hid hx
  have HB := Lib.hid hb
  have HSD := Lib.hid (show (Try.prog.info? 28).map (·.size) = some (draftV d).size by rw [draftV_size hr.1]; exact Try.sizeD)
  have HF := Lib.hid (fun w' => dev_fitsKind d hr w')
  obtain ⟨f, hf⟩ : ∃ f, fitsK d = f := ⟨_, rfl⟩
  obtain ⟨kl, hkl⟩ : ∃ n, d.key.length = n := ⟨_, rfl⟩
  obtain ⟨vl, hvl⟩ : ∃ n, d.val.length = n := ⟨_, rfl⟩
  have hke : (d.key == []) = decide (kl = 0) := by rw [val_nil_beq, ← hkl]; simp [List.length_eq_zero_iff]
  have HG := Shut.mk (show decide (GoodD d) = decide (1 ≤ kl ∧ kl ≤ 16 ∧ vl ≤ 64 ∧ f = true) from decide_eq_decide.2 (by rw [good_fits, hkl, hvl, hf]))
  rw [hf] at HF
  clear hx hb c0 c3 hf
  by_cases h1 : kl = 0
  · have e1 : (d.key == []) = true := by rw [hke]; exact decide_eq_true h1
    have HR := Shut.mk (HG.out.trans (decide_eq_false (by omega)))
    clear hke
    go_enter Try.func24, Try.ntmps24
    go_wp2_with fail
    go_ret
    exact ⟨by rw [HR.out]; rfl, HB.out⟩
  have e1 : (d.key == []) = false := by rw [hke]; exact decide_eq_false h1
  clear hke
  by_cases h2 : 16 < kl
  · have HR := Shut.mk (HG.out.trans (decide_eq_false (by omega)))
    have h2b : decide ((kl : Int) ≤ 16) = false := decide_eq_false (by omega)
    go_enter Try.func24, Try.ntmps24
    go_wp2_with fail
    go_ret
    exact ⟨by rw [HR.out]; rfl, HB.out⟩
  have h2b : decide ((kl : Int) ≤ 16) = true := decide_eq_true (by omega)
  by_cases h3 : 64 < vl
  · have HR := Shut.mk (HG.out.trans (decide_eq_false (by omega)))
    have h3b : decide ((vl : Int) ≤ 64) = false := decide_eq_false (by omega)
    go_enter Try.func24, Try.ntmps24
    go_wp2_with fail
    go_ret
    exact ⟨by rw [HR.out]; rfl, HB.out⟩
  have h3b : decide ((vl : Int) ≤ 64) = true := decide_eq_true (by omega)
  have HR := Shut.mk (show decide (GoodD d) = f by rw [HG.out]; cases f with | true => exact decide_eq_true ⟨by omega, by omega, by omega, rfl⟩ | false => exact decide_eq_false (fun h => by cases h.2.2.2))
  go_enter Try.func24, Try.ntmps24
  go_wp2_with (refine wpList_load_cells_want (by rfl) 28 _ rfl w.heap.size (draftV d) 28 _ rfl HX.out Try.underlying28 rfl HSD.out ?_)
  refine (HF.out _).mono ?_
  rintro e w1 ⟨rfl, hb⟩
  have HB1 := Lib.hid (HB.out.trans (hb.mono HB.out.size))
  clear hb
  go_wp2_with fail
  go_ret
  exact ⟨by rw [HR.out]; rfl, HB1.out⟩
end Go.Proofs.Ytenmkfjgjemiiaa
namespace Go.Proofs.Ytenmkfjgjemiiaa
open Go.RowKit
theorem run_copy_text {P : Program} (w : World) (dT sT ty elem : TypeId) (g o n cap : Nat) (s : List UInt8) (hu : P.underlying dT = some (.slice elem)) (hs : (P.info? elem).map (·.size) = some 1)
    (hc : ∀ j, j < min s.length n → (w.cell? ⟨g, o + j, none⟩).isSome = true) (hf : ∀ j, j < min s.length n → w.frozen? ⟨g, o + j, none⟩ = false) :
    (Builtin.copy_ #[dT, sT] ty #[.slice (some ⟨g, o, none⟩) n cap, .string ⟨s.toArray⟩]).run P w = .ok (goInt (min s.length n)) (w.setCells g o (nums .u8 (byteNs (s.take n)))) := by
  have hlen : (Lib.byteCells (s.take n)).length = min s.length n := by rw [Lib.byteCells_length, List.length_take, Nat.min_comm]
  have hst := run_storeCells_cells (P := P) g o (Lib.byteCells (s.take n)) 0 w (by rw [hlen]; exact hc) (by rw [hlen]; exact hf) (Lib.byteCells_one _)
  have htk : List.take (min s.length n) (List.map (fun b : UInt8 => Value.int IntKind.u8 (b.toNat : Int)) s) = Lib.byteCells (s.take n) := by
    rw [← List.map_take, Lib.byteCells]
    congr 1
    rcases Nat.le_total s.length n with h | h
    · rw [Nat.min_eq_left h, List.take_of_length_le (Nat.le_refl _), List.take_of_length_le h]
    · rw [Nat.min_eq_right h]
  have hsz : (⟨s.toArray⟩ : ByteArray).size = s.length := by simp [ByteArray.size]
  rw [byteCells_nums] at hst htk
  cases hq : P.info? elem with
  | none => simp [hq] at hs
  | some i =>
    have hmin : s.length.min n = min s.length n := rfl
    simp [Builtin.copy_, run_underlying hu, Builtin.lenOf, Builtin.firstCells, sizeOf, typeInfo, hq, hsz, hmin]
    rw [htk, hst]
    simp [Result.andThen]
    congr 1
    omega
theorem wpList_copy_text {P : Program} {w : World} {ops : Array Oper} {rest : List Oper} {o : Oper} {a : Act} {Q : Exit → Act → World → Prop} (hgd : o.guard = none) (d x : Operand) (dT sT : TypeId)
    (ho : o.op = .call { callee := .builtin .copy, args := #[d, x], argTypes := #[dT, sT] }) (elem : TypeId) (hu : P.underlying dT = some (.slice elem)) (hs : (P.info? elem).map (·.size) = some 1)
    (g off n cap : Nat) (s : List UInt8) (hd : a.eval d = .slice (some ⟨g, off, none⟩) n cap) (hx : a.eval x = .string ⟨s.toArray⟩)
    (hc : ∀ j, j < min s.length n → (w.cell? ⟨g, off + j, none⟩).isSome = true) (hf : ∀ j, j < min s.length n → w.frozen? ⟨g, off + j, none⟩ = false)
    (h : wpList P ops Q rest (a.put o.dst (goInt (min s.length n))) (w.setCells g off (nums .u8 (byteNs (s.take n))))) : wpList P ops Q (o :: rest) a w := by
  refine wpList_plain hgd fun K hK => ?_
  have hrun := run_copy_text (P := P) w dT sT o.type elem g off n cap s hu hs hc hf
  unfold Oper.wp
  simp [execOp, ho, resolve, invoke, builtin, hd, hx, hrun, Result.andThen]
  exact hK _ _ h
theorem Cells.lay {g : Nat} {t : TypeId} : ∀ (vs cs : List Value) (o : Nat) (w : World), Cells g t cs.toArray w → Cells g t (layV cs o vs).toArray (w.setCells g o vs)
  | [], _, _, _, h => h
  | v :: r, cs, o, w, h => by
    have h1 := h.set o v
    rw [List.setIfInBounds_toArray] at h1
    exact Cells.lay r (cs.set o v) (o + 1) _ h1
theorem wpList_load_mid_want {P : Program} {ops : Array Oper} {rest : List Oper} {op : Oper} {a : Act} {w : World} {Q : Exit → Act → World → Prop} (hw : Region.wanted op (yielded ops a.tmps) = true) (ty : TypeId) (x : Operand) (ho : op.op = .load ty x)
    (b o : Nat) (hx : a.eval x = .pointer (some ⟨b, o, none⟩)) (cs : List Value) (d : TypeDesc) (hc : w.rangeAt b o cs) (hu : P.underlying ty = some d) (hd : d.isRow = true) (hi : (P.info? ty).map (·.size) = some cs.length)
    (h : wpList P ops Q rest (a.put op.dst (.agg cs.toArray)) w) : wpList P ops Q (op :: rest) a w :=
  BigFrame.wpList_want hw fun _ hK => wp_load_mid ty x ho b o hx cs d hc hu hd hi (hK _ _ h)
theorem NewC.turn {s : Nat → Bool} {V : Nat → Value} {B i j : Nat} {t : TypeId} {cs : Array Value} {w w' : World} {u : Value} (h : NewC s V B j t cs w) (hne : j ≠ i) (hk : ∀ g, Cells g t cs w → Cells g t cs w') : NewC (fun j => s j || j == i) (upd V i u) B j t cs w' := fun hs => by
  obtain ⟨g, e, hg, hc⟩ := h (seen_ne hne hs)
  exact ⟨g, by rw [upd_ne V u hne]; exact e, hg, hk g hc⟩
end Go.Proofs.Ytenmkfjgjemiiaa
namespace Go.Proofs.Ytenmkfjgjemiiaa
open Go.RowKit Go.BigFrame
theorem wpList_bin {P : Program} {ops : Array Oper} {rest : List Oper} {o : Oper} {a : Act} {w : World} {Q : Exit → Act → World → Prop} (hg0 : o.guard = none) (op : BinOp) (t u : TypeId) (x y : Operand) (ho : o.op = .binOp op t x y u) (vx vy r : Value) (hx : a.eval x = vx) (hy : a.eval y = vy)
    (hg : ∀ w, (eqGuard op t x y vx vy).run P w = .ok () w) (hr : ∀ w, (binOp op t vx vy).run P w = .ok r w) (hk : wpList P ops Q rest (a.put o.dst r) w) : wpList P ops Q (o :: rest) a w :=
  wpList_plain hg0 fun _ hK => (op_bin op t u x y ho vx vy r hx hy hg hr (hK _ _ hk)).out
end Go.Proofs.Ytenmkfjgjemiiaa
namespace Go.Proofs.Ytenmkfjgjemiiaa
open Go.RowKit Go.BigFrame
def localE (d : DraftN) : EntN := ⟨1, d, 0, 0, zeroI, 0, [], []⟩
theorem localE_ok {d : DraftN} (h : IdOk d.ref) : (localE d).Ok := ⟨h, zeroI_ok⟩
theorem built_local (d : DraftN) (hd : IdOk d.ref) : Try.prog.built 30 [(0, .int .i64 1), (1, .agg (draftV d))] = some (entV (localE d)) := by
  rw [ent_fill, fill_kind, fill_draft _ _ ⟨zeroI_ok, zeroI_ok⟩ _ hd, fill_end]
  rfl
theorem results_cells {P : Program} {fn : Func} {p : Tmp} {ty : TypeId} (h : fn.results = #[.cell p ty]) (tmps : Array Value) (w : World) (g : Nat) (cs : Array Value) (t : TypeId) (d : TypeDesc)
    (hp : tmps.getD p undef = .pointer (some ⟨g, 0, none⟩)) (hg : Cells g t cs w)
    (hu : P.underlying ty = some d) (hd : (match d with | .struct _ | .array _ _ => true | _ => false) = true) (hi : (P.info? ty).map (·.size) = some cs.size) :
    (results fn tmps).run P w = .ok (.agg cs) w :=
  results_cell_row h tmps w g t _ (0, 0) d hp hg hu hd hi
theorem goodE1 {e : EntN} (h : e.kind = 1) : GoodE e ↔ e = localE e.d ∧ GoodD e.d := by
  obtain ⟨k, d, f, q, p, m, y, s⟩ := e
  simp only at h
  subst h
  simp only [GoodE, BareE, localE, EntN.mk.injEq, true_and]
  constructor
  · rintro (⟨a, ⟨b1, b2, b3, b4⟩, c, e⟩ | ⟨h, _⟩ | ⟨h, _⟩)
    · exact ⟨⟨b1, b2, b3, c, e, b4⟩, a⟩
    · cases h
    · cases h
  · rintro ⟨⟨b1, b2, b3, c, e, b4⟩, a⟩
    exact .inl ⟨a, ⟨b1, b2, b3, b4⟩, c, e⟩
def OrigE (e : EntN) : Prop := 0 ≤ e.src ∧ e.src ≤ 4 ∧ 1 ≤ e.seq
instance (e : EntN) : Decidable (OrigE e) := by unfold OrigE; infer_instance
theorem goodE2 {e : EntN} (h : e.kind = 2) : GoodE e ↔ e.d = noD ∧ OrigE e ∧ OutE e ∧ e.sig.length ≤ 1024 := by
  rw [GoodE, OrigE]
  constructor
  · rintro (⟨a, _⟩ | ⟨_, a, b, c, d, f, g⟩ | ⟨a, _⟩)
    · omega
    · exact ⟨b, ⟨c, d, f⟩, a, g⟩
    · omega
  · rintro ⟨b, ⟨c, d, f⟩, a, g⟩
    exact .inr (.inl ⟨h, a, b, c, d, f, g⟩)
theorem goodE3 {e : EntN} (h : e.kind = 3) : GoodE e ↔ e = outE e.mask e.pay ∧ OutE e := by
  obtain ⟨k, d, f, q, p, m, y, s⟩ := e
  simp only at h
  subst h
  simp only [GoodE, BareE, outE, EntN.mk.injEq, true_and]
  constructor
  · rintro (⟨h, _⟩ | ⟨h, _⟩ | ⟨a, b, c1, c2, c3, c4⟩)
    · cases h
    · cases h
    · exact ⟨⟨b, c1, c2, c3, c4⟩, a⟩
  · rintro ⟨⟨b, c1, c2, c3, c4⟩, a⟩
    exact .inr (.inr ⟨a, b, c1, c2, c3, c4⟩)
theorem goodE0 {e : EntN} (h1 : e.kind ≠ 1) (h2 : e.kind ≠ 2) (h3 : e.kind ≠ 3) : ¬ GoodE e := by
  rintro (h | h | h)
  · exact h1 h.1
  · exact h2 h.1
  · exact h3 h.1
set_option maxHeartbeats 4000000 in
set_option maxRecDepth 100000 in
theorem dev_local15 (d : DraftN) (hr : IdOk d.ref) (w : World) :
    Calls Try.prog 23 #[.agg (draftV d)] w fun r w' => r = .returned (.agg (entV (localE d))) ∧ Below w.heap.size w w' := by
  have HZE := Lib.hid (show (Try.prog.info? 30).bind (·.zero) = some (.agg (entL noE).toArray) by kernel_rfl)
  have HSD := Lib.hid (show (Try.prog.info? 28).map (·.size) = some (draftV d).size by rw [draftV_size hr.1]; exact Try.sizeD)
  have HSE := Lib.hid (sizeEV (localE_ok hr))
  have HBL := Lib.hid (built_local d hr)
  have HSZ := Lib.hid (show (entV noE).size = (entV (localE d)).size by rw [entV_size (localE_ok hr)]; rfl)
  have hx : Cells w.heap.size 28 (draftV d) (w.alloc (.cells (draftV d) 28)) := heap_alloc_new w _
  have hb : Below w.heap.size w (w.alloc (.cells (draftV d) 28)) := (Below.refl _ _).alloc (Nat.le_refl _) _
  have HX := Lib.hid hx
  have HB := Lib.hid hb
  clear hr hx hb
  go_enter Try.func23, Try.ntmps23
  go_upto_region 1 with (first | (refine wpList_alloc_of rfl 30 rfl (entL noE) HZE.out ?_))
  obtain ⟨w1, hw1⟩ : ∃ x, x = w.alloc (.cells (draftV d) 28) := ⟨_, rfl⟩
  rw [← hw1] at HX HB ⊢
  clear hw1
  have hx : Cells w1.heap.size 30 (entV noE) (w1.alloc (.cells (entV noE) 30)) := heap_alloc_new w1 _
  have hb : Below w1.heap.size w1 (w1.alloc (.cells (entV noE) 30)) := (Below.refl _ _).alloc (Nat.le_refl _) _
  change Code.wp _ _ _ _ (w1.alloc (.cells (entV noE) 30))
  have HX2 := Lib.hid (HX.out.below hb)
  have HB2 := Lib.hid (HB.out.trans (hb.mono HB.out.size))
  have HG := Lib.hid HB.out.size
  obtain ⟨w2, hw2⟩ : ∃ x, x = w1.alloc (.cells (entV noE) 30) := ⟨_, rfl⟩
  obtain ⟨g, hg⟩ : ∃ x, w1.heap.size = x := ⟨_, rfl⟩
  rw [← hw2] at hx HX2 HB2 ⊢
  rw [hg] at hx HG ⊢
  have HE := Lib.hid hx
  clear hw2 hg hx hb HX HB
  refine wp_region_lit ?_
  refine wpList_load_cells rfl 28 _ rfl w.heap.size (draftV d) 28 _ rfl HX2.out Try.underlying28 rfl HSD.out ?_
  simp only [Act.put, List.setIfInBounds_toArray, List.set_cons_zero, List.set_cons_succ]
  refine wpList_build_val rfl 30 _ rfl [(0, .int .i64 1), (1, .agg (draftV d))] _ (by simp; exact ⟨rfl, rfl⟩) HBL.out ?_
  simp only [Act.put, List.setIfInBounds_toArray, List.set_cons_zero, List.set_cons_succ]
  refine wpList_store_cells rfl 30 _ _ rfl rfl g (entV noE) (entV (localE d)) 30 rfl rfl HE.out HSE.out HSZ.out (entV_all _) ?_
  intro w9 hc hb
  have HC9 := Lib.hid hc.out
  have HB9 := Lib.hid (show Below w.heap.size w w9 from But.toBelow HB2.out hb.out HG.out HB2.out.size)
  clear hc hb HE HB2
  go_wp2_with fail
  refine bodyPost_ret (results_cells rfl _ _ g (entV (localE d)) 30 _ rfl HC9.out Try.underlying30 rfl HSE.out) rfl ?_
  exact ⟨rfl, HB9.out⟩
set_option maxHeartbeats 4000000 in
set_option maxRecDepth 100000 in
theorem dev_send15 (m : Int) (p : List UInt8) (w : World) :
    Calls Try.prog 27 #[.int .i64 m, .string ⟨p.toArray⟩] w fun r w' => r = .returned (.agg (entV (outE m p))) ∧ Below w.heap.size w w' := by
  have HZE := Lib.hid (show (Try.prog.info? 30).bind (·.zero) = some (.agg (entL noE).toArray) by kernel_rfl)
  have HSE := Lib.hid (sizeEV (outE_ok m p))
  have HBL := Lib.hid (built_out m p)
  have HSZ := Lib.hid (show (entV noE).size = (entV (outE m p)).size by rw [entV_size (outE_ok m p)]; rfl)
  have hx : Cells w.heap.size 30 (entV noE) (w.alloc (.cells (entV noE) 30)) := heap_alloc_new w _
  have hb : Below w.heap.size w (w.alloc (.cells (entV noE) 30)) := (Below.refl _ _).alloc (Nat.le_refl _) _
  go_enter Try.func27, Try.ntmps27
  go_upto_region 1 with (first | (refine wpList_alloc_of rfl 30 rfl (entL noE) HZE.out ?_))
  change Code.wp _ _ _ _ (w.alloc (.cells (entV noE) 30))
  obtain ⟨w2, hw2⟩ : ∃ x, x = w.alloc (.cells (entV noE) 30) := ⟨_, rfl⟩
  rw [← hw2] at hx hb ⊢
  have HE := Lib.hid hx
  have HB := Lib.hid hb
  clear hw2 hx hb
  go_wp2_with (first
    | (refine wpList_build_val rfl 30 _ rfl [(0, .int .i64 3), (5, .int .i64 m), (6, .string ⟨p.toArray⟩)] _ rfl HBL.out ?_)
    | (refine wpList_store_cells rfl 30 _ _ rfl rfl w.heap.size (entV noE) (entV (outE m p)) 30 rfl rfl HE.out HSE.out HSZ.out (entV_all _) ?_))
  intro w9 hc hb
  have HC9 := Lib.hid hc.out
  have HB9 := Lib.hid (show Below w.heap.size w w9 from But.toBelow HB.out hb.out (Nat.le_refl _) HB.out.size)
  clear hc hb HE HB
  go_wp2_with fail
  refine bodyPost_ret (results_cells rfl _ _ w.heap.size (entV (outE m p)) 30 _ rfl HC9.out Try.underlying30 rfl HSE.out) rfl ?_
  exact ⟨rfl, HB9.out⟩
set_option maxHeartbeats 4000000 in
set_option maxRecDepth 100000 in
theorem dev_origin15 (e : EntN) (he : e.Ok) (w : World) :
    Calls Try.prog 25 #[.agg (entV e)] w fun r w' => r = .returned (.bool (decide (OrigE e))) ∧ Below w.heap.size w w' := by
  have hx : Cells w.heap.size 30 (entV e) (w.alloc (.cells (entV e) 30)) := heap_alloc_new w _
  have hb : Below w.heap.size w (w.alloc (.cells (entV e) 30)) := (Below.refl _ _).alloc (Nat.le_refl _) _
  have HB := Lib.hid hb
  obtain ⟨c0, cd, cf, cq, cp, cm, cy, cs⟩ := ent_cells he hx
  have HCF := Lib.hid cf
  have HCQ := Lib.hid cq
  clear hx hb c0 cd cf cq cp cm cy cs
  obtain ⟨f, hf⟩ : ∃ x, e.src = x := ⟨_, rfl⟩
  obtain ⟨q, hq⟩ : ∃ x, e.seq = x := ⟨_, rfl⟩
  rw [hf] at HCF
  rw [hq] at HCQ
  have HO := Shut.mk (show decide (OrigE e) = (decide (0 ≤ f) && decide (f < 5) && decide (0 < q)) by
    rw [Bool.eq_iff_iff]
    simp only [decide_eq_true_eq, Bool.and_eq_true, OrigE, hf, hq]
    omega)
  clear hf hq
  go_enter Try.func25, Try.ntmps25
  go_upto_region 1 with (fail)
  obtain ⟨w1, hw1⟩ : ∃ x, x = w.alloc (.cells (entV e) 30) := ⟨_, rfl⟩
  rw [← hw1] at HB HCF HCQ ⊢
  clear hw1
  have cf := HCF.out
  have cq := HCQ.out
  clear HCF HCQ
  by_cases h1 : 0 ≤ f
  · have g1 : decide (0 ≤ f) = true := decide_eq_true h1
    by_cases h2 : f < 5
    · have g2 : decide (f < 5) = true := decide_eq_true h2
      by_cases h3 : 0 < q
      · have g3 : decide (0 < q) = true := decide_eq_true h3
        rw [g1, g2, g3] at HO
        go_wp2_with fail
        go_ret
        exact ⟨by rw [HO.out]; rfl, HB.out⟩
      · have g3 : decide (0 < q) = false := decide_eq_false h3
        rw [g1, g2, g3] at HO
        go_wp2_with fail
        go_ret
        exact ⟨by rw [HO.out]; rfl, HB.out⟩
    · have g2 : decide (f < 5) = false := decide_eq_false h2
      rw [g1, g2] at HO
      go_wp2_with fail
      go_ret
      exact ⟨by rw [HO.out]; rfl, HB.out⟩
  · have g1 : decide (0 ≤ f) = false := decide_eq_false h1
    rw [g1] at HO
    go_wp2_with fail
    go_ret
    exact ⟨by rw [HO.out]; rfl, HB.out⟩
set_option maxHeartbeats 4000000 in
set_option maxRecDepth 100000 in
theorem dev_cargo15 (e : EntN) (he : e.Ok) (w : World) :
    Calls Try.prog 26 #[.agg (entV e)] w fun r w' => r = .returned (.bool (decide (OutE e))) ∧ Below w.heap.size w w' := by
  have hx : Cells w.heap.size 30 (entV e) (w.alloc (.cells (entV e) 30)) := heap_alloc_new w _
  have hb : Below w.heap.size w (w.alloc (.cells (entV e) 30)) := (Below.refl _ _).alloc (Nat.le_refl _) _
  have HB := Lib.hid hb
  obtain ⟨c0, cd, cf, cq, cp, cm, cy, cs⟩ := ent_cells he hx
  have HCF := Lib.hid cm
  have HCQ := Lib.hid cy
  clear hx hb c0 cd cf cq cp cm cy cs
  obtain ⟨f, hf⟩ : ∃ x, e.mask = x := ⟨_, rfl⟩
  obtain ⟨q, hq⟩ : ∃ n, e.pay.length = n := ⟨_, rfl⟩
  rw [hf] at HCF
  have HO := Shut.mk (show decide (OutE e) = (decide (0 < f) && decide (f ≤ 31) && decide ((q : Int) ≤ 2048)) by
    rw [Bool.eq_iff_iff]
    simp only [decide_eq_true_eq, Bool.and_eq_true, OutE, hf, hq]
    omega)
  clear hf
  go_enter Try.func26, Try.ntmps26
  go_upto_region 1 with (fail)
  obtain ⟨w1, hw1⟩ : ∃ x, x = w.alloc (.cells (entV e) 30) := ⟨_, rfl⟩
  rw [← hw1] at HB HCF HCQ ⊢
  clear hw1
  have cf := HCF.out
  have cq := HCQ.out
  clear HCF HCQ
  by_cases h1 : 0 < f
  · have g1 : decide (0 < f) = true := decide_eq_true h1
    by_cases h2 : f ≤ 31
    · have g2 : decide (f ≤ 31) = true := decide_eq_true h2
      by_cases h3 : (q : Int) ≤ 2048
      · have g3 : decide ((q : Int) ≤ 2048) = true := decide_eq_true h3
        rw [g1, g2, g3] at HO
        go_wp2_with fail
        go_ret
        exact ⟨by rw [HO.out]; rfl, HB.out⟩
      · have g3 : decide ((q : Int) ≤ 2048) = false := decide_eq_false h3
        rw [g1, g2, g3] at HO
        go_wp2_with fail
        go_ret
        exact ⟨by rw [HO.out]; rfl, HB.out⟩
    · have g2 : decide (f ≤ 31) = false := decide_eq_false h2
      rw [g1, g2] at HO
      go_wp2_with fail
      go_ret
      exact ⟨by rw [HO.out]; rfl, HB.out⟩
  · have g1 : decide (0 < f) = false := decide_eq_false h1
    rw [g1] at HO
    go_wp2_with fail
    go_ret
    exact ⟨by rw [HO.out]; rfl, HB.out⟩
set_option maxHeartbeats 4000000 in
set_option maxRecDepth 100000 in
theorem dev_good15 (e : EntN) (he : e.Len) (w : World) :
    Calls Try.prog 10 #[.agg (entV e)] w fun r w' => r = .returned (.bool (decide (GoodE e))) ∧ Below w.heap.size w w' := by
  have hx : Cells w.heap.size 30 (entV e) (w.alloc (.cells (entV e) 30)) := heap_alloc_new w _
  have hb : Below w.heap.size w (w.alloc (.cells (entV e) 30)) := (Below.refl _ _).alloc (Nat.le_refl _) _
  have HX := Lib.hid hx
  have HB := Lib.hid hb
  have HE := Lib.hid he
  have HSE := Lib.hid (sizeEV he.ok)
  have HSD := Lib.hid (show (Try.prog.info? 28).map (·.size) = some (draftL e.d).length by rw [draftL_len he.ok.ref.1]; exact Try.sizeD)
  clear hx hb he
  go_enter Try.func10, Try.ntmps10
  go_upto_region 1 with (fail)
  obtain ⟨w1, hw1⟩ : ∃ x, x = w.alloc (.cells (entV e) 30) := ⟨_, rfl⟩
  rw [← hw1] at HX HB ⊢
  clear hw1
  obtain ⟨c0, cd, cf, cq, cp, cm, cy, cs⟩ := ent_cells HE.out.ok HX.out
  have HBL := Lib.hid HX.out.lt
  have HCX := Lib.hid (fun (w' : World) (q : Below w1.heap.size w1 w') => HX.out.below q)
  have HCD := Lib.hid (fun (w' : World) (q : Below w1.heap.size w1 w') => rangeAt_belowI cd q HX.out.lt)
  have HCM := Lib.hid (fun (w' : World) (q : Below w1.heap.size w1 w') => (q.cell (p := ⟨w.heap.size, 70, none⟩) HX.out.lt).trans cm)
  have HCY := Lib.hid (fun (w' : World) (q : Below w1.heap.size w1 w') => (q.cell (p := ⟨w.heap.size, 71, none⟩) HX.out.lt).trans cy)
  have HCS := Lib.hid (fun (w' : World) (q : Below w1.heap.size w1 w') => (q.cell (p := ⟨w.heap.size, 72, none⟩) HX.out.lt).trans cs)
  obtain ⟨k, hk⟩ : ∃ x, e.kind = x := ⟨_, rfl⟩
  have HK := Shut.mk hk
  rw [hk] at c0
  clear cd cf cq cp cm cy cs hk
  by_cases h1 : k = 1
  · have g1 : (k == 1) = true := by simp [h1]
    have HGI := Shut.mk (goodE1 (HK.out.trans h1))
    have HLC := Lib.hid (fun w' => dev_local15 e.d HE.out.ok.ref w')
    have HGD := Lib.hid (fun w' => dev_goodDraft e.d HE.out.ok.ref HE.out.key HE.out.val w')
    obtain ⟨a, ha⟩ : ∃ b, decide (e = localE e.d) = b := ⟨_, rfl⟩
    obtain ⟨b, hb⟩ : ∃ b, decide (GoodD e.d) = b := ⟨_, rfl⟩
    have HEQ := Lib.hid (fun w' => eql_ent e (localE e.d) HE.out.ok (localE_ok HE.out.ok.ref) w')
    rw [ha] at HEQ
    rw [hb] at HGD
    have HZ := Shut.mk (show decide (GoodE e) = (a && b) by
      rw [← ha, ← hb, Bool.eq_iff_iff]
      simp only [decide_eq_true_eq, Bool.and_eq_true]
      exact HGI.out)
    clear ha hb HGI h1
    go_upto_region 3 with (fail)
    cases a
    all_goals
      refine wp_region_class (fun w' => Below w1.heap.size w1 w') (by kernel_rfl) (by kernel_rfl) (Below.refl _ _).drew ?_
      repeat (first
        | go_big_quiet_skip
        | (go_big_quiet_want; refine quiet_load_cells 30 _ rfl w.heap.size (entV e) 30 _ rfl HCX.out Try.underlying30 rfl HSE.out ?_; go_big_quiet_on; simp only [Act.put, List.setIfInBounds_toArray, List.set_cons_zero, List.set_cons_succ])
        | (go_big_quiet_want; refine quiet_load_row 28 _ rfl w.heap.size 1 (draftL e.d) _ rfl HCD.out Try.underlying28 rfl HSD.out ?_; go_big_quiet_on; simp only [Act.put, List.setIfInBounds_toArray, List.set_cons_zero, List.set_cons_succ])
        | (go_big_quiet_want; refine quiet_bin .eql 30 _ _ _ rfl (.agg (entV e)) (.agg (entV (localE e.d))) _ rfl rfl (guard_ent .eql (.inl rfl) _ _ _ _) HEQ.out ?_; go_big_quiet_on; simp only [Act.put, List.setIfInBounds_toArray, List.set_cons_zero, List.set_cons_succ])
        | go_big_quiet_step ((intro hs'; first
            | (go_at_call 23; exact (HLC.out _).mono fun e w' h => ⟨h.1, hs'.trans (h.2.mono hs'.size)⟩)
            | (go_at_call 24; exact (HGD.out _).mono fun e w' h => ⟨h.1, hs'.trans (h.2.mono hs'.size)⟩)
            | rfl)))
      refine wpQuiet_nil ?_
      intro w2 hs2
      have HB2 := Lib.hid (HB.out.trans (hs2.mono HB.out.size))
      clear hs2
      go_wp2_with fail
      go_ret
      exact ⟨by rw [HZ.out]; rfl, HB2.out⟩
  have g1 : (k == 1) = false := by simp [h1]
  by_cases h2 : k = 2
  · have g2 : (k == 2) = true := by simp [h2]
    have HGI := Shut.mk (goodE2 (HK.out.trans h2))
    have HOR := Lib.hid (fun w' => dev_origin15 e HE.out.ok w')
    have HCG := Lib.hid (fun w' => dev_cargo15 e HE.out.ok w')
    obtain ⟨sl, hsl⟩ : ∃ n, e.sig.length = n := ⟨_, rfl⟩
    obtain ⟨a, ha⟩ : ∃ b, decide (e.d = noD) = b := ⟨_, rfl⟩
    obtain ⟨b, hb⟩ : ∃ b, decide (OrigE e) = b := ⟨_, rfl⟩
    obtain ⟨c, hc⟩ : ∃ b, decide (OutE e) = b := ⟨_, rfl⟩
    obtain ⟨d, hd⟩ : ∃ b, decide ((sl : Int) ≤ 1024) = b := ⟨_, rfl⟩
    have HEQ := Lib.hid (fun w' => eql_draft e.d noD HE.out.ok.ref zeroI_ok w')
    rw [ha] at HEQ
    rw [hb] at HOR
    rw [hc] at HCG
    have HZ := Shut.mk (show decide (GoodE e) = (a && b && c && d) by
      rw [← ha, ← hb, ← hc, ← hd, ← hsl, Bool.eq_iff_iff]
      simp only [decide_eq_true_eq, Bool.and_eq_true]
      rw [HGI.out]
      constructor
      · rintro ⟨x, y, z, u⟩
        exact ⟨⟨⟨x, y⟩, z⟩, by omega⟩
      · rintro ⟨⟨⟨x, y⟩, z⟩, u⟩
        exact ⟨x, y, z, by omega⟩)
    have HBD := Lib.hid (show Try.prog.built 28 [] = some (draftV noD) from built_draft0)
    clear ha hb hc HGI h1 h2
    go_upto_region 5 with (fail)
    cases a with
    | false =>
      go_wp2_with (first
      | (refine wpList_load_mid rfl 28 _ rfl w.heap.size 1 rfl _ _ (HCD.out _ (Below.refl _ _)) Try.underlying28 rfl HSD.out ?_)
      | (refine wpList_build_val rfl 28 #[] rfl [] _ (by simp) HBD.out ?_)
      | (refine wpList_bin rfl .eql 28 _ _ _ rfl (.agg (draftV e.d)) (.agg (draftV noD)) _ rfl rfl (guard_draft _ _ _ _) HEQ.out ?_)
      | (refine wpList_load_cells_want (by rfl) 30 _ rfl w.heap.size (entV e) 30 _ rfl (HCX.out _ (Below.refl _ _)) Try.underlying30 rfl HSE.out ?_))
      go_ret
      exact ⟨by rw [HZ.out]; rfl, HB.out⟩
    | true =>
    go_wp2_with (first
      | (refine wpList_load_mid rfl 28 _ rfl w.heap.size 1 rfl _ _ (HCD.out _ (Below.refl _ _)) Try.underlying28 rfl HSD.out ?_)
      | (refine wpList_build_val rfl 28 #[] rfl [] _ (by simp) HBD.out ?_)
      | (refine wpList_bin rfl .eql 28 _ _ _ rfl (.agg (draftV e.d)) (.agg (draftV noD)) _ rfl rfl (guard_draft _ _ _ _) HEQ.out ?_)
      | (refine wpList_load_cells_want (by rfl) 30 _ rfl w.heap.size (entV e) 30 _ rfl (HCX.out _ (Below.refl _ _)) Try.underlying30 rfl HSE.out ?_))
    refine (HOR.out w1).mono ?_
    rintro r w2 ⟨rfl, hb⟩
    have HB2 := Lib.hid (hb.mono HB.out.size)
    have HBW := Lib.hid hb
    clear hb HOR
    cases b with
    | false =>
      go_wp2_with fail
      go_ret
      exact ⟨by rw [HZ.out]; rfl, HB.out.trans HB2.out⟩
    | true =>
    go_wp2_with (refine wpList_load_cells_want (by rfl) 30 _ rfl w.heap.size (entV e) 30 _ rfl (HCX.out _ HBW.out) Try.underlying30 rfl HSE.out ?_)
    refine (HCG.out w2).mono ?_
    rintro r w3 ⟨rfl, hb⟩
    have HB3 := Lib.hid (HBW.out.trans (hb.mono HBW.out.size))
    clear hb HBW HCG HB2
    have cs := HCS.out w3 HB3.out
    cases c with
    | false =>
      go_wp2_with fail
      go_ret
      exact ⟨by rw [HZ.out]; rfl, HB.out.trans (HB3.out.mono HB.out.size)⟩
    | true =>
    cases d with
    | false =>
      go_wp2_with fail
      go_ret
      exact ⟨by rw [HZ.out]; rfl, HB.out.trans (HB3.out.mono HB.out.size)⟩
    | true =>
      go_wp2_with fail
      go_ret
      exact ⟨by rw [HZ.out]; rfl, HB.out.trans (HB3.out.mono HB.out.size)⟩
  have g2 : (k == 2) = false := by simp [h2]
  by_cases h3 : k = 3
  · have g3 : (k == 3) = true := by simp [h3]
    have HGI := Shut.mk (goodE3 (HK.out.trans h3))
    have HLC := Lib.hid (fun w' => dev_send15 e.mask e.pay w')
    have HGD := Lib.hid (fun w' => dev_cargo15 e HE.out.ok w')
    obtain ⟨a, ha⟩ : ∃ b, decide (e = outE e.mask e.pay) = b := ⟨_, rfl⟩
    obtain ⟨b, hb⟩ : ∃ b, decide (OutE e) = b := ⟨_, rfl⟩
    have HEQ := Lib.hid (fun w' => eql_ent e (outE e.mask e.pay) HE.out.ok (outE_ok _ _) w')
    rw [ha] at HEQ
    rw [hb] at HGD
    have HZ := Shut.mk (show decide (GoodE e) = (a && b) by
      rw [← ha, ← hb, Bool.eq_iff_iff]
      simp only [decide_eq_true_eq, Bool.and_eq_true]
      exact HGI.out)
    clear ha hb HGI h1 h2 h3
    go_upto_region 7 with (fail)
    cases a
    all_goals
      refine wp_region_class (fun w' => Below w1.heap.size w1 w') (by kernel_rfl) (by kernel_rfl) (Below.refl _ _).drew ?_
      repeat (first
        | go_big_quiet_skip
        | (go_big_quiet_want; refine quiet_load_cells 30 _ rfl w.heap.size (entV e) 30 _ rfl HCX.out Try.underlying30 rfl HSE.out ?_; go_big_quiet_on; simp only [Act.put, List.setIfInBounds_toArray, List.set_cons_zero, List.set_cons_succ])
        | (go_big_quiet_want; refine quiet_load_cell 3 _ rfl ⟨w.heap.size, 70, none⟩ _ rfl HCM.out Try.isAgg3 ?_; go_big_quiet_on; simp only [Act.put, List.setIfInBounds_toArray, List.set_cons_zero, List.set_cons_succ])
        | (go_big_quiet_want; refine quiet_load_cell 9 _ rfl ⟨w.heap.size, 71, none⟩ _ rfl HCY.out Try.isAgg9 ?_; go_big_quiet_on; simp only [Act.put, List.setIfInBounds_toArray, List.set_cons_zero, List.set_cons_succ])
        | (go_big_quiet_want; refine quiet_bin .eql 30 _ _ _ rfl (.agg (entV e)) (.agg (entV (outE e.mask e.pay))) _ rfl rfl (guard_ent .eql (.inl rfl) _ _ _ _) HEQ.out ?_; go_big_quiet_on; simp only [Act.put, List.setIfInBounds_toArray, List.set_cons_zero, List.set_cons_succ])
        | go_big_quiet_step ((intro hs'; first
            | (go_at_call 27; exact (HLC.out _).mono fun e w' h => ⟨h.1, hs'.trans (h.2.mono hs'.size)⟩)
            | (go_at_call 26; exact (HGD.out _).mono fun e w' h => ⟨h.1, hs'.trans (h.2.mono hs'.size)⟩)
            | rfl)))
      refine wpQuiet_nil ?_
      intro w2 hs2
      have HB2 := Lib.hid (HB.out.trans (hs2.mono HB.out.size))
      clear hs2
      go_wp2_with fail
      go_ret
      exact ⟨by rw [HZ.out]; rfl, HB2.out⟩
  have g3 : (k == 3) = false := by simp [h3]
  have HZ := Shut.mk (show decide (GoodE e) = false from decide_eq_false (goodE0 (by rw [HK.out]; exact h1) (by rw [HK.out]; exact h2) (by rw [HK.out]; exact h3)))
  clear h1 h2 h3
  go_wp2_with fail
  go_ret
  exact ⟨by rw [HZ.out]; rfl, HB.out⟩
end Go.Proofs.Ytenmkfjgjemiiaa
namespace Go.Proofs.Ytenmkfjgjemiiaa
structure DraftN.Fit (d : DraftN) : Prop where
  ref : IdOk d.ref
  low : -9223372036854775808 ≤ d.kind
  high : d.kind ≤ 9223372036854775807
  key : d.key.length ≤ 512
  val : d.val.length ≤ 512
theorem GoodD.fit {d : DraftN} (h : GoodD d) (hr : IdOk d.ref) : d.Fit := by
  obtain ⟨h1, h2, _, h4, h5, _⟩ := h
  exact ⟨hr, by omega, by omega, by omega, by omega⟩
end Go.Proofs.Ytenmkfjgjemiiaa
