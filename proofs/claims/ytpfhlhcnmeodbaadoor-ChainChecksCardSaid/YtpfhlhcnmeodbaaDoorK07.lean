/-
  Joined: Objects that live in memory of their own: what a call turns (Only), what it owns behind it (Turn); rows of values of one cell (RowV).; Operations of a region whose order is open, one by one (for the steps of wp_region_free): fields, loads, conversions, literal slices of one value, values pushed.; Drafts and operations as values.; Structs built: a literal of any struct type by its layout (wpList_build_val, quiet_build_val, op_build_val: the value as an equation of P.built).; Drafts built.; Drafts compared.; Rows of blocks of K cells (arrays, structs), one behind the other: a block read, laid over, pushed; copy; a call of a function value.; Entries as values: where their fields lie, how they are built and compared.; What a law's arguments are: slices of texts, opened.; Rows of structs of K cells: that came in, that lie in a row of the call's own.; Rows of entries.; A node as a value; steps of regions.; A node's value: built, compared.; Words and nodes as values: where their fields lie, how they are built and compared; that came in.; Elements cut from a text: 'copy(list[i][:], s[i*16:])'.; Up, permitted, half.
-/
import Derived.ChangeOld
import Derived.Deep.MidRow
import Derived.Deep.Slices
import Derived.Great.BuildSlice
import Derived.Laws.BytesString
import Derived.Laws.DeepStrings4
import Derived.Laws.IdiomCopy
import Derived.Laws.StructEq
import Derived.OpenShut
import Derived.ProofKit
import Derived.ShutString
import Derived.SizedLaws
import Derived.SliceStrings
import Derived.Test.YtpfhlhcnmeodbaaDoorRows
import Derived.Test.YtpfhlhcnmeodbaaDoorK01
import Derived.Test.YtpfhlhcnmeodbaaDoorK02
import Derived.Test.YtpfhlhcnmeodbaaDoorK05
import Derived.Test.YtpfhlhcnmeodbaaDoorK06
namespace Go.Proofs.YtpfhlhcnmeodbaaDoor
open Go.RowKit
structure Only (O : Nat → Prop) (w w' : World) : Prop where
  os : w'.os = w.os
  tape : w'.tape = w.tape
  output : w'.output = w.output
  size : w.heap.size ≤ w'.heap.size
  block : ∀ k, k < w.heap.size → ¬ O k → w'.heap[k]? = w.heap[k]?
theorem Only.refl (O : Nat → Prop) (w : World) : Only O w w := ⟨rfl, rfl, rfl, Nat.le_refl _, fun _ _ _ => rfl⟩
theorem Only.below {O : Nat → Prop} {w w1 w2 : World} (h : Only O w w1) (k : Below w1.heap.size w1 w2) : Only O w w2 :=
  ⟨k.os.trans h.os, k.tape.trans h.tape, k.output.trans h.output, Nat.le_trans h.size k.size, fun i hi hO => (k.block i (Nat.lt_of_lt_of_le hi h.size)).trans (h.block i hi hO)⟩
theorem Only.of {O : Nat → Prop} {w w' : World} (h : Below w.heap.size w w') : Only O w w' := (Only.refl O w).below h
theorem Only.but {O : Nat → Prop} {b : Nat} {w w1 w2 : World} (h : Only O w w1) (k : But b w1 w2) (hb : O b ∨ w.heap.size ≤ b) : Only O w w2 :=
  ⟨k.os.trans h.os, k.tape.trans h.tape, k.output.trans h.output, Nat.le_trans h.size k.size, fun i hi hO => (k.block i (Nat.lt_of_lt_of_le hi h.size) (fun e => by
    subst e
    rcases hb with hb | hb
    · exact hO hb
    · omega)).trans (h.block i hi hO)⟩
theorem Only.grown {O : Nat → Prop} {row : Option Nat} {w w1 w2 : World} (h : Only O w w1) (k : w1.grownBy w2 row) (hr : ∀ b, row = some b → O b ∨ w.heap.size ≤ b) : Only O w w2 :=
  ⟨k.os.trans h.os, k.tape.trans h.tape, k.output.trans h.output, Nat.le_trans h.size k.size, fun i hi hO => (k.block i (Nat.lt_of_lt_of_le hi h.size) (fun e => by
    rcases hr i e.symm with hb | hb
    · exact hO hb
    · omega)).trans (h.block i hi hO)⟩
theorem Only.setCell {O : Nat → Prop} {w w1 : World} (h : Only O w w1) {b : Nat} (o : Nat) (v : Value) (hb : O b ∨ w.heap.size ≤ b) : Only O w (w1.setCell ⟨b, o, none⟩ v) := h.but ((But.refl b w1).setCell o v) hb
theorem Only.trans {O O' : Nat → Prop} {w1 w2 w3 : World} (h : Only O w1 w2) (k : Only O' w2 w3) (ho : ∀ b, O' b → O b ∨ w1.heap.size ≤ b) : Only O w1 w3 :=
  ⟨k.os.trans h.os, k.tape.trans h.tape, k.output.trans h.output, Nat.le_trans h.size k.size, fun i hi hO => (k.block i (Nat.lt_of_lt_of_le hi h.size) (fun e => by
    rcases ho i e with hb | hb
    · exact hO hb
    · omega)).trans (h.block i hi hO)⟩
theorem Only.toBelow {O : Nat → Prop} {B : Nat} {w0 w w' : World} (h0 : Below B w0 w) (h : Only O w w') (hO : ∀ b, O b → B ≤ b) (hB : B ≤ w.heap.size) : Below B w0 w' :=
  h0.trans ⟨h.os, h.tape, h.output, h.size, fun k hk => h.block k (Nat.lt_of_lt_of_le hk hB) (fun e => by have := hO k e; omega)⟩
structure Turn (O O' : Nat → Prop) (w w' : World) : Prop where
  only : Only O w w'
  own : ∀ b, O' b → O b ∨ w.heap.size ≤ b
theorem Turn.refl (O : Nat → Prop) (w : World) : Turn O O w w := ⟨Only.refl O w, fun _ h => .inl h⟩
theorem Turn.below {O O' : Nat → Prop} {w1 w2 w3 : World} (h : Turn O O' w1 w2) (k : Below w2.heap.size w2 w3) : Turn O O' w1 w3 := ⟨h.only.below k, h.own⟩
theorem Turn.of {O : Nat → Prop} {w w' : World} (k : Below w.heap.size w w') : Turn O O w w' := (Turn.refl O w).below k
theorem Cells.only {O : Nat → Prop} {b : Nat} {t : TypeId} {cs : Array Value} {w w' : World} (h : Cells b t cs w) (k : Only O w w') (hb : ¬ O b) : Cells b t cs w' := (k.block b h.lt hb).trans h
theorem Cells.set {g : Nat} {t : TypeId} {cs : Array Value} {w : World} (h : Cells g t cs w) (j : Nat) (u : Value) : Cells g t (cs.setIfInBounds j u) (w.setCell ⟨g, j, none⟩ u) := heap_setCell_at h
theorem Cells.at {g : Nat} {t : TypeId} {cs : Array Value} {w : World} (h : Cells g t cs w) (j : Nat) : w.cell? ⟨g, j, none⟩ = cs[j]? := Lib.cell_of_heap h j
theorem Cells.frozen {g : Nat} {t : TypeId} {cs : Array Value} {w : World} (h : Cells g t cs w) (j : Nat) : w.frozen? ⟨g, j, none⟩ = false := by
  have h' : w.heap[g]? = some (.cells cs t (0, 0)) := h
  simp [World.frozen?, h']
theorem quiet_conv {P : Program} {o : Oper} {a : Act} {C : World → Prop} {K : Act → Prop} (t u : TypeId) (x : Operand) (ho : o.op = .convert t u x) (v r : Value) (hx : a.eval x = v)
    (hC : ∀ w, C w → (convert t u v).run P w = .ok r w) (hk : K (a.put o.dst r)) : o.quiet P a C K := by
  refine ⟨_, fun w hw => ?_, hk⟩
  unfold Oper.quietAt execOp
  simp only [ho, hx, Sem.run_bind, hC w hw, Result.andThen_ok, Sem.run_pure]
  exact ⟨rfl, rfl⟩
end Go.Proofs.YtpfhlhcnmeodbaaDoor
namespace Go.Proofs.YtpfhlhcnmeodbaaDoor
open Go.RowKit
section
variable {P : Program} {o : Oper} {a : Act} {w : World} {K : Act → World → Prop} {Q : Exit → Act → World → Prop}
theorem op_nilCheck (x : Operand) (ho : o.op = .nilCheck x) (p : Addr) (hx : a.eval x = .pointer (some p)) (h : K (a.put o.dst (.pointer (some p))) w) : OpWp P o a w K Q := by
  refine ⟨?_⟩
  unfold Oper.wp execOp
  simp only [ho, hx, Sem.run_pure]
  exact h
theorem op_fieldAt (ty : TypeId) (x : Operand) (k : Nat) (ho : o.op = .fieldAddr ty x k) (p q : Addr) (hx : a.eval x = .pointer (some p)) (hr : ∀ w, (Instr.fieldAt ty (.pointer (some p)) k).run P w = .ok (.pointer (some q)) w)
    (h : K (a.put o.dst (.pointer (some q))) w) : OpWp P o a w K Q := by
  refine ⟨?_⟩
  unfold Oper.wp execOp
  simp only [ho, hx, Sem.run_bind, Sem.run_pure, hr, Result.andThen_ok]
  exact h
theorem op_load_cell (ty : TypeId) (x : Operand) (ho : o.op = .load ty x) (p : Addr) (v : Value) (hx : a.eval x = .pointer (some p)) (hc : w.cell? p = some v) (hi : ∀ w, (isAgg ty).run P w = .ok false w) (h : K (a.put o.dst v) w) : OpWp P o a w K Q := by
  refine ⟨?_⟩
  unfold Oper.wp execOp
  simp only [ho, hx, Instr.loadAt, Instr.sureAddr, Sem.run_bind, Sem.run_pure, Result.andThen_ok, run_loadVar_cell w ty p v hc hi]
  exact h
theorem op_indexAt (ty : TypeId) (x y : Operand) (ho : o.op = .indexAddr ty x y) (vx vy : Value) (q : Addr) (hx : a.eval x = vx) (hy : a.eval y = vy) (hr : ∀ w, (Instr.indexAt ty vx vy).run P w = .ok (.pointer (some q)) w)
    (h : K (a.put o.dst (.pointer (some q))) w) : OpWp P o a w K Q := by
  refine ⟨?_⟩
  unfold Oper.wp execOp
  simp only [ho, hx, hy, Sem.run_bind, Sem.run_pure, hr, Result.andThen_ok]
  exact h
end
theorem FreeStep.asked {P : Program} {ops : Array Oper} {Q : Exit → Act → World → Prop} {F : (Nat → Value) → Act} {Inv : (Nat → Bool) → (Nat → Value) → World → Prop} {o : Oper} {i : Nat} (j : Nat) (b : Bool) (hg : o.guard = some (j, b))
    (hy : ∀ V, V j = .bool b → yielded ops (F V).tmps j = some b) (hv : ∀ s V w, (∀ e ∈ o.after, Region.binds .any e = true → s e.on = true) → Inv s V w → V j = .bool b)
    (h : ∀ s V w, (∀ e ∈ o.after, Region.binds .any e = true → s e.on = true) → s i = false → Inv s V w → ∀ K : Act → World → Prop, (∀ v w', Inv (fun j => s j || j == i) (upd V i v) w' → K ((F V).put o.dst v) w') → OpWp P o (F V) w K Q) : FreeStep P ops Q F Inv o i := ⟨fun s V w hr hu hI K hK => by
  have hw : Region.wanted o (yielded ops (F V).tmps) = true := by simp [Region.wanted, hg, hy V (hv s V w hr hI)]
  rw [if_pos hw]
  exact (h s V w hr hu hI K hK).out⟩
theorem op_eqlv {P : Program} {o : Oper} {a : Act} {w : World} {K : Act → World → Prop} {Q : Exit → Act → World → Prop} (t u : TypeId) (x y : Operand) (ho : o.op = .binOp .eql t x y u) (vx vy : Value) (b : Bool) (hx : a.eval x = vx) (hy : a.eval y = vy)
    (hg : ∀ w, (eqGuard .eql t x y vx vy).run P w = .ok () w) (hr : ∀ w, (binOp .eql t vx vy).run P w = .ok (.bool b) w) (h : K (a.put o.dst (.bool b)) w) : OpWp P o a w K Q := by
  refine ⟨?_⟩
  unfold Oper.wp execOp
  simp only [ho, hx, hy, Sem.run_bind, Sem.run_pure, hg, hr, Result.andThen_ok]
  exact h
theorem op_pick_yes {P : Program} {o : Oper} {a : Act} {w : World} {K : Act → World → Prop} {Q : Exit → Act → World → Prop} (c x y : Operand) (ho : o.op = .pick c x y) (hc : a.eval c = .bool true) (v : Value) (hx : a.eval x = v) (h : K (a.put o.dst v) w) : OpWp P o a w K Q := by
  refine ⟨?_⟩
  unfold Oper.wp execOp
  simp only [ho, hc, hx, asBool, Sem.run_bind, Sem.run_pure, Result.andThen_ok, if_true]
  exact h
theorem op_slice_tail {P : Program} {o : Oper} {a : Act} {w : World} {K : Act → World → Prop} {Q : Exit → Act → World → Prop} (ty : TypeId) (x : Operand) (n : Nat) (ho : o.op = .slice ty x (some (.const (.int .i64 n))) none none) (s : List UInt8) (hx : a.eval x = .string ⟨s.toArray⟩)
    (hu : P.underlying ty = some .string) (hn : n ≤ s.length) (h : K (a.put o.dst (.string ⟨(s.drop n).toArray⟩)) w) : OpWp P o a w K Q := by
  have hr := run_slice_string_l (P := P) w ty ⟨s.toArray⟩ hu .i64 (n : Int) (by omega) (by show (n : Int) ≤ ((⟨s.toArray⟩ : ByteArray).size : Int); simp [ByteArray.size]; omega)
  rw [Int.toNat_natCast, show (⟨s.toArray⟩ : ByteArray).size = s.length by simp [ByteArray.size], extract_tail] at hr
  have hr2 := (run_sliceAt_string (P := P) w ty (.string ⟨s.toArray⟩) (some (.int .i64 (n : Int))) none none hu).trans hr
  refine ⟨?_⟩
  unfold Oper.wp execOp
  simp only [ho, Option.map_some, Option.map_none, show a.eval (.const (.int .i64 (n : Int))) = .int .i64 (n : Int) from rfl, hx, Sem.run_bind, Sem.run_pure, hr2, Result.andThen_ok]
  exact h
theorem op_bin {P : Program} {o : Oper} {a : Act} {w : World} {K : Act → World → Prop} {Q : Exit → Act → World → Prop} (op : BinOp) (t u : TypeId) (x y : Operand) (ho : o.op = .binOp op t x y u) (vx vy r : Value) (hx : a.eval x = vx) (hy : a.eval y = vy)
    (hg : ∀ w, (eqGuard op t x y vx vy).run P w = .ok () w) (hr : ∀ w, (binOp op t vx vy).run P w = .ok r w) (h : K (a.put o.dst r) w) : OpWp P o a w K Q := by
  refine ⟨?_⟩
  unfold Oper.wp execOp
  simp only [ho, hx, hy, Sem.run_bind, Sem.run_pure, hg, hr, Result.andThen_ok]
  exact h
theorem results_cells_tmp {P : Program} {fn : Func} {p u : Tmp} {ty : TypeId} (h : fn.results = #[.cell p ty, .tmp u]) (tmps : Array Value) (w : World) (g : Nat) (cs : Array Value) (t : TypeId) (d : TypeDesc) (v : Value)
    (hp : tmps.getD p undef = .pointer (some ⟨g, 0, none⟩)) (hv : tmps.getD u undef = v) (hg : Cells g t cs w)
    (hu : P.underlying ty = some d) (hd : (match d with | .struct _ | .array _ _ => true | _ => false) = true) (hi : (P.info? ty).map (·.size) = some cs.size) :
    (results fn tmps).run P w = .ok (.tuple #[.agg cs, v]) w := by
  rw [results_cell_tmp h, hp, hv]
  simp [asAddr, Result.andThen, run_loadVar_row w g t ty _ (0, 0) d hg hu hd hi]
end Go.Proofs.YtpfhlhcnmeodbaaDoor
namespace Go.Proofs.YtpfhlhcnmeodbaaDoor
open Go.RowKit Go.BigFrame
def draftL (d : DraftN) : List Value := .int .i64 d.kind :: .string ⟨d.key.toArray⟩ :: .string ⟨d.val.toArray⟩ :: nums .u8 d.ref
def draftV (d : DraftN) : Array Value := (draftL d).toArray
theorem draftL_len {d : DraftN} (h : d.ref.length = 32) : (draftL d).length = 35 := by simp [draftL, nums_len, h]
theorem draftL_one (d : DraftN) : ∀ u ∈ draftL d, u.oneCell' = true := fun u hu => by
  simp only [draftL, List.mem_cons] at hu
  rcases hu with rfl | rfl | rfl | hu
  · rfl
  · rfl
  · rfl
  · exact nums_one _ _ u hu
theorem zeroI_lit : (nums .u8 zeroI).toArray = #[.int .u8 0, .int .u8 0, .int .u8 0, .int .u8 0, .int .u8 0, .int .u8 0, .int .u8 0, .int .u8 0, .int .u8 0, .int .u8 0, .int .u8 0, .int .u8 0, .int .u8 0, .int .u8 0, .int .u8 0, .int .u8 0, .int .u8 0, .int .u8 0, .int .u8 0, .int .u8 0, .int .u8 0, .int .u8 0, .int .u8 0, .int .u8 0, .int .u8 0, .int .u8 0, .int .u8 0, .int .u8 0, .int .u8 0, .int .u8 0, .int .u8 0, .int .u8 0] := rfl
theorem Tryd.sizeI : (Tryd.prog.info? 24).map (·.size) = some 32 := by kernel_rfl
theorem draft_cells {g : Nat} {t : TypeId} {d : DraftN} {w : World} (h : Cells g t (draftV d) w) : w.cell? ⟨g, 0, none⟩ = some (.int .i64 d.kind) ∧ w.cell? ⟨g, 1, none⟩ = some (.string ⟨d.key.toArray⟩) ∧ w.cell? ⟨g, 2, none⟩ = some (.string ⟨d.val.toArray⟩) ∧ w.rangeAt g 3 (nums .u8 d.ref) := by
  refine ⟨by rw [h.at]; rfl, by rw [h.at]; rfl, by rw [h.at]; rfl, fun j v hj => ?_⟩
  rw [h.at, draftV, List.getElem?_toArray, draftL, Nat.add_comm, List.getElem?_cons_succ, List.getElem?_cons_succ, List.getElem?_cons_succ]
  exact hj
theorem val_nil_beq (v : List UInt8) : (v == []) = decide (v = []) := by cases v <;> simp
end Go.Proofs.YtpfhlhcnmeodbaaDoor
namespace Go.Proofs.YtpfhlhcnmeodbaaDoor
open Go.RowKit
def putL (xs : List Value) : Nat → List Value → List Value
  | _, [] => xs
  | o, v :: r => putL (xs.set o v) (o + 1) r
theorem fold_putL (off : Nat) : ∀ (vs : List Value) (cs : Array Value) (k : Nat), List.foldl (fun (cs : Array Value) (x : Value × Nat) => cs.setIfInBounds (off + x.2) x.1) cs (vs.zipIdx k) = (putL cs.toList (off + k) vs).toArray
  | [], cs, k => by simp [putL]
  | v :: r, cs, k => by rw [List.zipIdx_cons, List.foldl_cons, fold_putL off r, putL]; simp [Nat.add_assoc]
theorem putL_mid : ∀ (vs xs ys zs : List Value), vs.length = ys.length → putL (xs ++ (ys ++ zs)) xs.length vs = xs ++ (vs ++ zs)
  | [], xs, ys, zs, h => by
    obtain rfl : ys = [] := List.length_eq_zero_iff.1 h.symm
    rfl
  | v :: r, xs, ys, zs, h => by
    cases ys with
    | nil => cases h
    | cons y ys =>
      have ih := putL_mid r (xs ++ [v]) ys zs (by simpa using h)
      rw [List.length_append, List.length_singleton] at ih
      rw [putL, List.cons_append, List.set_append_right _ _ (Nat.le_refl _), Nat.sub_self, List.set_cons_zero]
      simpa using ih
theorem fill_lay (place : Nat → Option (Nat × Nat)) (i off size : Nat) (v : Value) (rest : List (Nat × Value)) (xs ys zs vs : List Value) (hp : place i = some (off, size)) (hv : v.cells.toList = vs) (h1 : vs.length = size) (h2 : ys.length = size) (h3 : xs.length = off) :
    Instr.fill place (xs ++ (ys ++ zs)).toArray ((i, v) :: rest) = Instr.fill place (xs ++ (vs ++ zs)).toArray rest := by
  have hc : v.cells.size = size := by rw [← h1, ← hv, Array.length_toList]
  rw [Instr.fill]
  simp only [hp]
  rw [if_neg (by simp [hc]; omega)]
  congr 1
  rw [← Array.foldl_toList, Array.toList_zipIdx, fold_putL off, hv]
  show (putL (xs ++ (ys ++ zs)) (off + 0) vs).toArray = _
  rw [Nat.add_zero, ← h3, putL_mid _ _ _ _ (by omega)]
theorem fill_end (place : Nat → Option (Nat × Nat)) (cs : Array Value) : Instr.fill place cs [] = some cs := rfl
theorem run_build_val {P : Program} {a : Act} {w : World} (t : TypeId) (parts : Array (Nat × Operand)) (vals : List (Nat × Value)) (cs : Array Value)
    (hp : (parts.map fun (i, x) => (i, a.eval x)) = vals.toArray) (hb : P.built t vals = some cs) : (Instr.build t (parts.map fun (i, x) => (i, a.eval x))).run P w = .ok (.agg cs) w := by
  rw [hp]
  exact run_build w t vals.toArray cs (by simpa using hb)
theorem wpList_build_val {P : Program} {ops : Array Oper} {rest : List Oper} {o : Oper} {a : Act} {w : World} {Q : Exit → Act → World → Prop} (hg : o.guard = none) (t : TypeId) (parts : Array (Nat × Operand)) (ho : o.op = .build t parts)
    (vals : List (Nat × Value)) (cs : Array Value) (hp : (parts.map fun (i, x) => (i, a.eval x)) = vals.toArray) (hb : P.built t vals = some cs) (hk : wpList P ops Q rest (a.put o.dst (.agg cs)) w) : wpList P ops Q (o :: rest) a w := by
  refine wpList_plain hg fun K hK => ?_
  unfold Oper.wp execOp
  simp only [ho, Sem.run_bind, run_build_val t parts vals cs hp hb, Result.andThen_ok]
  exact hK _ _ hk
theorem wpList_build_want {P : Program} {ops : Array Oper} {rest : List Oper} {o : Oper} {a : Act} {w : World} {Q : Exit → Act → World → Prop} (hw : Region.wanted o (yielded ops a.tmps) = true) (t : TypeId) (parts : Array (Nat × Operand)) (ho : o.op = .build t parts)
    (vals : List (Nat × Value)) (cs : Array Value) (hp : (parts.map fun (i, x) => (i, a.eval x)) = vals.toArray) (hb : P.built t vals = some cs) (hk : wpList P ops Q rest (a.put o.dst (.agg cs)) w) : wpList P ops Q (o :: rest) a w := by
  refine BigFrame.wpList_want hw fun K hK => ?_
  unfold Oper.wp execOp
  simp only [ho, Sem.run_bind, run_build_val t parts vals cs hp hb, Result.andThen_ok]
  exact hK _ _ hk
theorem wpList_load_cells_want {P : Program} {w : World} {ops : Array Oper} {rest : List Oper} {o : Oper} {a : Act} {Q : Exit → Act → World → Prop} (hw : Region.wanted o (yielded ops a.tmps) = true) (ty : TypeId) (x : Operand) (ho : o.op = .load ty x)
    (g : Nat) (cs : Array Value) (t : TypeId) (d : TypeDesc) (hx : a.eval x = .pointer (some ⟨g, 0, none⟩)) (hg : Cells g t cs w)
    (hu : P.underlying ty = some d) (hd : (match d with | .struct _ | .array _ _ => true | _ => false) = true) (hi : (P.info? ty).map (·.size) = some cs.size)
    (h : wpList P ops Q rest (a.put o.dst (.agg cs)) w) : wpList P ops Q (o :: rest) a w :=
  BigFrame.wpList_want hw fun _ hK => wp_load_row ty x ho g hx t _ _ d hg hu hd hi (hK _ _ h)
theorem quiet_load_row {P : Program} {o : Oper} {a : Act} {C : World → Prop} {K : Act → Prop} (ty : TypeId) (x : Operand) (ho : o.op = .load ty x) (b off : Nat) (cs : List Value) (d : TypeDesc)
    (hx : a.eval x = .pointer (some ⟨b, off, none⟩)) (hC : ∀ w, C w → w.rangeAt b off cs) (hu : P.underlying ty = some d) (hd : d.isRow = true) (hi : (P.info? ty).map (·.size) = some cs.length)
    (hk : K (a.put o.dst (.agg cs.toArray))) : o.quiet P a C K := by
  refine ⟨_, fun w hw => ?_, hk⟩
  unfold Oper.quietAt execOp
  simp only [ho, hx, Instr.loadAt, Instr.sureAddr, Sem.run_bind, Sem.run_pure, Result.andThen_ok, run_loadVar_mid w b off ty _ d (hC w hw) hu hd hi]
  exact ⟨rfl, rfl⟩
theorem quiet_bin {P : Program} {o : Oper} {a : Act} {C : World → Prop} {K : Act → Prop} (op : BinOp) (t u : TypeId) (x y : Operand) (ho : o.op = .binOp op t x y u) (vx vy r : Value) (hx : a.eval x = vx) (hy : a.eval y = vy)
    (hg : ∀ w, (eqGuard op t x y vx vy).run P w = .ok () w) (hr : ∀ w, (binOp op t vx vy).run P w = .ok r w) (hk : K (a.put o.dst r)) : o.quiet P a C K := by
  refine ⟨_, fun w hw => ?_, hk⟩
  unfold Oper.quietAt execOp
  simp only [ho, hx, hy, Sem.run_bind, Sem.run_pure, hg, hr, Result.andThen_ok]
  exact ⟨rfl, rfl⟩
theorem part_row {P : Program} {w : World} {t : TypeId} {xs vs : Array Value} {off n : Nat} (h1 : (isAgg t).run P w = .ok true w) (h2 : (sizeOf t).run P w = .ok n w) (h3 : xs.extract off (off + n) = vs) : (Go.part t xs off).run P w = .ok (.agg vs) w := by
  simp only [Go.part, Sem.run_bind, h1, h2, Result.andThen_ok, if_true, h3, Sem.run_pure]
theorem part_cell {P : Program} {w : World} {t : TypeId} {xs : Array Value} {off : Nat} {v : Value} (h1 : (isAgg t).run P w = .ok false w) (h3 : xs[off]? = some v) : (Go.part t xs off).run P w = .ok v w := by
  simp only [Go.part, Sem.run_bind, h1, Result.andThen_ok, Bool.false_eq_true, if_false, h3, Sem.run_pure]
theorem eqFields_cons {P : Program} {w : World} {d : Nat} {xs ys : Array Value} {f : Field} {fs : List Field} {nm : String} {t : TypeId} {off : Nat} {a b : Value} {r s : Bool} (hf : (f.name, f.type, f.offset) = (nm, t, off)) (hn : nm ≠ "_")
    (ha : (Go.part t xs off).run P w = .ok a w) (hb : (Go.part t ys off).run P w = .ok b w) (hr : (Op.equalIn d t a b).run P w = .ok r w) (hs : (Op.eqFields d xs ys fs).run P w = .ok s w) : (Op.eqFields d xs ys (f :: fs)).run P w = .ok (r && s) w := by
  simp only [Prod.mk.injEq] at hf
  obtain ⟨rfl, rfl, rfl⟩ := hf
  rw [Op.eqFields, if_pos hn]
  simp only [Sem.run_bind, ha, hb, hr, Result.andThen_ok]
  cases r with
  | false => simp
  | true => simpa using hs
theorem eqFields_nil {P : Program} {w : World} {d : Nat} {xs ys : Array Value} : (Op.eqFields d xs ys []).run P w = .ok true w := by
  rw [Op.eqFields, Sem.run_pure]
theorem run_equal_text {P : Program} {w : World} (d : Nat) (t : TypeId) (a b : List UInt8) (h : P.underlying t = some .string) : (Op.equalIn (d + 1) t (.string ⟨a.toArray⟩) (.string ⟨b.toArray⟩)).run P w = .ok (a == b) w := by
  rw [run_equalIn_string w d t _ _ h, ByteArray.toList_eq, ByteArray.toList_eq]
theorem fields4 {l : List Field} {a b c d : String × TypeId × Nat} (h : l.map (fun f => (f.name, f.type, f.offset)) = [a, b, c, d]) : ∃ f0 f1 f2 f3, l = [f0, f1, f2, f3] ∧ (f0.name, f0.type, f0.offset) = a ∧ (f1.name, f1.type, f1.offset) = b ∧ (f2.name, f2.type, f2.offset) = c ∧ (f3.name, f3.type, f3.offset) = d := by
  match l, h with
  | [f0, f1, f2, f3], h =>
    simp only [List.map_cons, List.map_nil, List.cons.injEq, and_true] at h
    exact ⟨f0, f1, f2, f3, rfl, h.1, h.2.1, h.2.2.1, h.2.2.2⟩
  | [], h => simp at h
  | [_], h => simp at h
  | [_, _], h => simp at h
  | [_, _, _], h => simp at h
  | _ :: _ :: _ :: _ :: _ :: _, h => simp at h
end Go.Proofs.YtpfhlhcnmeodbaaDoor
namespace Go.Proofs.YtpfhlhcnmeodbaaDoor
open Go.RowKit Go.BigFrame
theorem Tryd.sizeD : (Tryd.prog.info? 33).map (·.size) = some 35 := by kernel_rfl
def zeroD : DraftN := ⟨0, [], [], zeroI⟩
def placeD : Nat → Option (Nat × Nat) := fun i => (#[(0, 1), (1, 1), (2, 1), (3, 32)] : Array (Nat × Nat))[i]?
theorem draft_fill (parts : List (Nat × Value)) : Tryd.prog.built 33 parts = Instr.fill placeD (draftV zeroD) parts := by kernel_rfl
theorem built_draft0 : Tryd.prog.built 33 [] = some (draftV zeroD) := by rw [draft_fill]; rfl
theorem draftV_size {d : DraftN} (h : d.ref.length = 32) : (draftV d).size = 35 := draftL_len h
end Go.Proofs.YtpfhlhcnmeodbaaDoor
namespace Go.Proofs.YtpfhlhcnmeodbaaDoor
open Go.RowKit Go.BigFrame
theorem draft_fields : (Tryd.prog.fieldsOf 33).toList.map (fun f => (f.name, f.type, f.offset)) = [("Kind", 3, 0), ("Key", 9, 1), ("Value", 9, 2), ("Ref", 24, 3)] := by kernel_rfl
theorem draft_part (d : DraftN) (hd : d.ref.length = 32) (w : World) : (Go.part 3 (draftV d) 0).run Tryd.prog w = .ok (.int .i64 d.kind) w ∧ (Go.part 9 (draftV d) 1).run Tryd.prog w = .ok (.string ⟨d.key.toArray⟩) w ∧
    (Go.part 9 (draftV d) 2).run Tryd.prog w = .ok (.string ⟨d.val.toArray⟩) w ∧ (Go.part 24 (draftV d) 3).run Tryd.prog w = .ok (.agg (nums .u8 d.ref).toArray) w := by
  refine ⟨part_cell (by kernel_rfl) rfl, part_cell (by kernel_rfl) rfl, part_cell (by kernel_rfl) rfl, part_row (n := 32) (by kernel_rfl) (by kernel_rfl) ?_⟩
  apply Array.ext'
  rw [draftV, draftL, List.extract_toArray, List.toList_toArray, List.extract_eq_take_drop]
  simp only [List.drop_succ_cons, List.drop_zero]
  rw [List.take_of_length_le (by rw [nums_len, hd]; decide)]
def eqDB (a b : DraftN) : Bool := (a.kind == b.kind) && ((a.key == b.key) && ((a.val == b.val) && ((a.ref == b.ref) && true)))
theorem eqDB_eq (a b : DraftN) : eqDB a b = decide (a = b) := by
  obtain ⟨a1, a2, a3, a4⟩ := a
  obtain ⟨b1, b2, b3, b4⟩ := b
  simp only [eqDB, DraftN.mk.injEq]
  rw [Bool.eq_iff_iff]
  simp
theorem equal_draft (a b : DraftN) (ha : IdOk a.ref) (hb : IdOk b.ref) (w : World) :
    (Op.equalIn 10000 33 (.agg (draftV a)) (.agg (draftV b))).run Tryd.prog w = .ok (decide (a = b)) w := by
  have hs := run_equalIn_struct (P := Tryd.prog) w 9999 33 (draftV a) (draftV b) (by kernel_rfl) (by kernel_rfl)
  rw [show 9999 + 1 = 10000 from rfl] at hs
  rw [hs]
  obtain ⟨f0, f1, f2, f3, hf, h0, h1, h2, h3⟩ := fields4 draft_fields
  rw [hf]
  obtain ⟨p0, p1, p2, p3⟩ := draft_part a ha.1 w
  obtain ⟨q0, q1, q2, q3⟩ := draft_part b hb.1 w
  have e0 := run_equalIn_int (P := Tryd.prog) w 9998 3 .i64 .i64 a.kind b.kind Tryd.underlying3
  have e1 := run_equal_text (P := Tryd.prog) (w := w) 9998 9 a.key b.key Tryd.underlying9
  have e2 := run_equal_text (P := Tryd.prog) (w := w) 9998 9 a.val b.val Tryd.underlying9
  have e3 : (Op.equalIn 9999 24 (.agg (nums .u8 a.ref).toArray) (.agg (nums .u8 b.ref).toArray)).run Tryd.prog w = .ok (a.ref == b.ref) w := by
    rw [cells_txt ha.2, cells_txt hb.2, run_equalIn_bytes w 9997 24 5 32 Tryd.underlying24 Tryd.underlying5 Tryd.sizeOf5 (txt a.ref) (txt b.ref) (by rw [txt_len, ha.1]) (by rw [txt_len, hb.1]), txt_beq ha.2 hb.2]
  have h := eqFields_cons h0 (by decide) p0 q0 e0 (eqFields_cons h1 (by decide) p1 q1 e1 (eqFields_cons h2 (by decide) p2 q2 e2 (eqFields_cons h3 (by decide) p3 q3 e3 eqFields_nil)))
  rw [h, ← eqDB_eq]
  rfl
theorem eql_draft (a b : DraftN) (ha : IdOk a.ref) (hb : IdOk b.ref) (w : World) : (binOp .eql 33 (.agg (draftV a)) (.agg (draftV b))).run Tryd.prog w = .ok (.bool (decide (a = b))) w := by
  rw [run_eql_struct, equal_draft a b ha hb]
  rfl
theorem guard_draft (x y : Operand) (u v : Array Value) (w : World) : (eqGuard .eql 33 x y (.agg u) (.agg v)).run Tryd.prog w = .ok () w := run_eqGuard_agg w .eql 33 x y u v (by kernel_rfl)
end Go.Proofs.YtpfhlhcnmeodbaaDoor
namespace Go.Proofs.YtpfhlhcnmeodbaaDoor
open Go.RowKit
section
variable {α : Type}
def Wide (K : Nat) (L : List (List α)) : Prop := ∀ x ∈ L, x.length = K
theorem Wide.getD {K : Nat} {L : List (List α)} (h : Wide K L) {i : Nat} (hi : i < L.length) : (L.getD i []).length = K := by
  rw [List.getD_eq_getElem?_getD, List.getElem?_eq_getElem hi]
  exact h _ (List.getElem_mem hi)
theorem flat_len {K : Nat} {L : List (List α)} (h : Wide K L) : L.flatten.length = L.length * K := by
  induction L with
  | nil => simp
  | cons x L ih =>
    have h1 := h x (by simp)
    have h2 := ih fun y hy => h y (by simp [hy])
    rw [List.flatten_cons, List.length_append, h1, h2, List.length_cons, Nat.succ_mul]
    omega
theorem flat_get {K : Nat} {L : List (List α)} (h : Wide K L) : ∀ {i j : Nat}, i < L.length → j < K → L.flatten[K * i + j]? = (L.getD i [])[j]? := by
  induction L with
  | nil => intro i j hi _; cases hi
  | cons x L ih =>
    intro i j hi hj
    have h1 := h x (by simp)
    rw [List.flatten_cons]
    cases i with
    | zero => rw [Nat.mul_zero, Nat.zero_add, List.getElem?_append_left (by omega)]; rfl
    | succ i =>
      have e : K * (i + 1) + j = x.length + (K * i + j) := by rw [h1, Nat.mul_succ]; omega
      rw [e, List.getElem?_append_right (by omega), Nat.add_sub_cancel_left]
      exact ih (fun y hy => h y (by simp [hy])) (by simpa using hi) hj
end
def RowK (K : Nat) (e : TypeId) (v : Value) (L : List (List Value)) (w : World) : Prop := w.ownsRow 0 e K v L.length L.flatten
section
variable {K : Nat} {e : TypeId} {v : Value} {L : List (List Value)} {w w' : World}
theorem RowK.form (h : RowK K e v L w) : ∃ ao cap, v = .slice ao L.length cap := by
  rcases h.2 with ⟨h1, h2⟩ | ⟨g, cap, _, h1, _⟩
  · exact ⟨_, _, by rw [h1, h2]⟩
  · exact ⟨_, _, h1⟩
theorem RowK.formB (h : RowK K e v L w) (h0 : 0 < L.length) : ∃ g cap, v = .slice (some ⟨g, 0, none⟩) L.length cap := by
  rcases h.2 with ⟨_, h2⟩ | ⟨g, cap, cur, h1, _⟩
  · omega
  · exact ⟨g, cap, h1⟩
theorem RowK.lt (h : RowK K e v L w) {g : Nat} (hg : v.ownBlock = some g) : g < w.heap.size := (World.ownsRow.lt h g hg).2
theorem RowK.heap (h : RowK K e v L w) {g : Nat} (hg : v.ownBlock = some g) : ∃ cur, w.heap[g]? = some (.cells cur e (0, 0)) := by
  rcases h.2 with ⟨h1, _⟩ | ⟨g', cap, cur, h1, _, h3, _⟩
  · rw [h1] at hg; cases hg
  · rw [h1] at hg
    obtain rfl : g' = g := by simpa [Value.ownBlock] using hg
    exact ⟨cur, h3⟩
theorem RowK.at {g n c i : Nat} (hn : n = L.length) (h : RowK K e (.slice (some ⟨g, 0, none⟩) n c) L w) (hL : Wide K L) (hi : i < L.length) : w.rangeAt g (K * i) (L.getD i []) := fun j u hj => by
  subst hn
  have hjl := (List.getElem?_eq_some_iff.1 hj).1
  rw [hL.getD hi] at hjl
  have hlt : K * i + j < L.length * K := by
    have := Nat.mul_le_mul_left K hi
    rw [Nat.succ_eq_add_one, Nat.mul_succ] at this
    rw [Nat.mul_comm L.length]
    omega
  rw [World.ownsRow.cellAt h _ hlt, flat_get hL hi hjl]
  exact hj
theorem RowK.notCells {t : TypeId} {cs : Array Value} {g : Nat} (h : RowK K e v L w) (hc : Cells g t cs w) (hne : e ≠ t) : v.ownBlock ≠ some g := fun hg => by
  obtain ⟨cur, hh⟩ := h.heap hg
  rw [hc] at hh
  simp only [Option.some.injEq, Obj.cells.injEq] at hh
  exact hne hh.2.1.symm
end
section
variable {P : Program} {o : Oper} {a : Act} {w : World} {K : Act → World → Prop} {Q : Exit → Act → World → Prop}
theorem run_alloc_of (ty : TypeId) (z : List Value) (hz : (P.info? ty).bind (·.zero) = some (.agg z.toArray)) (w : World) : (Instr.alloc ty true (.tuple #[])).run P w = .ok (.pointer (some ⟨w.heap.size, 0, none⟩)) (w.alloc (.cells z.toArray ty)) := by
  obtain ⟨i, hi, hzz⟩ := Option.bind_eq_some_iff.1 hz
  simp [Instr.alloc, zeroValue, typeInfo, hi, hzz, go_sem]
theorem wpList_alloc_of {ops : Array Oper} {rest : List Oper} (hgd : o.guard = none) (ty : TypeId) (ho : o.op = .alloc ty) (z : List Value) (hz : (P.info? ty).bind (·.zero) = some (.agg z.toArray))
    (h : wpList P ops Q rest (a.put o.dst (.pointer (some ⟨w.heap.size, 0, none⟩))) (w.alloc (.cells z.toArray ty))) : wpList P ops Q (o :: rest) a w :=
  wpList_plain hgd fun _ hK => (op_alloc ty ho z.toArray (run_alloc_of ty z hz) (hK _ _ h)).out
theorem run_build_wide (t e : TypeId) (us : List Value) (z : Value) (bytes size : Nat) (ht : P.underlying t = some (.slice e)) (hinfo : (P.info? e).map (fun i => (i.zero, i.size, i.bytes)) = some (some z, size, bytes)) (hs : us.length = size) (h0 : 0 < size) (hsm : size ≤ 100000) (w : World) :
    (Instr.buildSlice t 1 #[(0, .agg us.toArray)]).run P w = .ok (.slice (some ⟨w.heap.size, 0, none⟩) 1 1) (w.alloc (.cells us.toArray e)) := by
  obtain ⟨i, hi, hz0, hz1, _⟩ := info_parts hinfo
  refine run_buildSlice (P := P) w t e 1 #[(0, .agg us.toArray)] us.toArray i z ht hi hz0 (by rw [hz1]; omega) (by rw [hz1]; omega) ?_
  rw [hz1]
  have h1 := Great.fill_whole (s := size) h0 [Value.agg us.toArray] ((Array.range (1 * size)).map (z.cells[· % z.cells.size]!))
    (fun v hv => by obtain rfl := List.mem_singleton.1 hv; show us.toArray.size = size; rw [List.size_toArray, hs]) (by simp)
  have e1 : (#[(0, Value.agg us.toArray)] : Array (Nat × Value)).toList = ([Value.agg us.toArray].zipIdx 0).map fun x => (x.2, x.1) := by simp [List.zipIdx_cons]
  have e2 : ([Value.agg us.toArray].flatMap fun v => v.cells.toList).toArray = us.toArray := by
    rw [List.flatMap_cons, List.flatMap_nil, List.append_nil]
    rfl
  rw [e1, h1, e2]
theorem op_build_wide (t e : TypeId) (x : Operand) (ho : o.op = .buildSlice t 1 #[(0, x)]) (us : List Value) (hx : a.eval x = .agg us.toArray)
    (hr : ∀ w, (Instr.buildSlice t 1 #[(0, .agg us.toArray)]).run P w = .ok (.slice (some ⟨w.heap.size, 0, none⟩) 1 1) (w.alloc (.cells us.toArray e)))
    (h : K (a.put o.dst (.slice (some ⟨w.heap.size, 0, none⟩) 1 1)) (w.alloc (.cells us.toArray e))) : OpWp P o a w K Q := by
  refine ⟨?_⟩
  have e1 : ((#[(0, x)] : Array (Nat × Operand)).map fun (i, x) => (i, a.eval x)) = #[(0, .agg us.toArray)] := by simp [hx]
  unfold Oper.wp execOp
  simp only [ho, e1, Sem.run_bind, Sem.run_pure, hr, Result.andThen_ok]
  exact h
end
end Go.Proofs.YtpfhlhcnmeodbaaDoor
namespace Go.Proofs.YtpfhlhcnmeodbaaDoor
open Go.RowKit Go.BigFrame
def entT (e : EntN) : List Value := [.int .i64 e.mask, .string ⟨e.pay.toArray⟩, .string ⟨e.sig.toArray⟩]
def entL (e : EntN) : List Value := [.int .i64 e.kind] ++ (draftL e.d ++ ([.int .i64 e.src, .int .i64 e.seq] ++ (nums .u8 e.prev ++ entT e)))
def entV (e : EntN) : Array Value := (entL e).toArray
theorem entL_len {e : EntN} (h : e.Ok) : (entL e).length = 73 := by
  simp only [entL, entT, List.length_append, draftL_len h.ref.1, nums_len, h.prev.1, List.length_cons, List.length_nil]
theorem entL_one (e : EntN) : ∀ u ∈ entL e, u.oneCell' = true := fun u hu => by
  simp only [entL, entT, List.mem_append, List.mem_cons, List.not_mem_nil, or_false] at hu
  rcases hu with rfl | hu | (rfl | rfl) | hu | (rfl | rfl | rfl)
  · rfl
  · exact draftL_one _ u hu
  · rfl
  · rfl
  · exact nums_one _ _ u hu
  · rfl
  · rfl
  · rfl
theorem entV_all (e : EntN) : (entV e).all (·.oneCell') = true := by
  rw [entV, List.all_toArray]
  exact List.all_eq_true.2 (entL_one e)
theorem entV_size {e : EntN} (h : e.Ok) : (entV e).size = 73 := entL_len h
theorem Tryd.sizeE : (Tryd.prog.info? 35).map (·.size) = some 73 := by kernel_rfl
theorem sizeEV {e : EntN} (h : e.Ok) : (Tryd.prog.info? 35).map (·.size) = some (entV e).size := by rw [entV_size h]; exact Tryd.sizeE
theorem sizeEL {e : EntN} (h : e.Ok) : (Tryd.prog.info? 35).map (·.size) = some (entL e).length := by rw [entL_len h]; exact Tryd.sizeE
theorem rangeAt_app {b o : Nat} {L M : List Value} {w : World} (h : w.rangeAt b o (L ++ M)) : w.rangeAt b o L ∧ w.rangeAt b (o + L.length) M := by
  refine ⟨fun j v hj => h j v ?_, fun j v hj => ?_⟩
  · have hl := (List.getElem?_eq_some_iff.1 hj).1
    rw [List.getElem?_append_left hl]
    exact hj
  · have h1 := h (L.length + j) v (by rw [List.getElem?_append_right (by omega), Nat.add_sub_cancel_left]; exact hj)
    rw [← Nat.add_assoc] at h1
    exact h1
structure EntAt (b o : Nat) (e : EntN) (w : World) : Prop where
  kind : w.cell? ⟨b, o, none⟩ = some (.int .i64 e.kind)
  draft : w.rangeAt b (o + 1) (draftL e.d)
  src : w.cell? ⟨b, o + 36, none⟩ = some (.int .i64 e.src)
  seq : w.cell? ⟨b, o + 37, none⟩ = some (.int .i64 e.seq)
  prev : w.rangeAt b (o + 38) (nums .u8 e.prev)
  mask : w.cell? ⟨b, o + 70, none⟩ = some (.int .i64 e.mask)
  pay : w.cell? ⟨b, o + 71, none⟩ = some (.string ⟨e.pay.toArray⟩)
  sig : w.cell? ⟨b, o + 72, none⟩ = some (.string ⟨e.sig.toArray⟩)
theorem ent_at {b o : Nat} {e : EntN} {w : World} (hok : e.Ok) (h : w.rangeAt b o (entL e)) : EntAt b o e w := by
  have hd := draftL_len hok.ref.1
  have hp := hok.prev.1
  obtain ⟨h0, h⟩ := rangeAt_app h
  obtain ⟨h1, h⟩ := rangeAt_app h
  obtain ⟨h2, h⟩ := rangeAt_app h
  obtain ⟨h3, h⟩ := rangeAt_app h
  simp only [List.length_cons, List.length_nil, hd, nums_len, hp, Nat.zero_add, Nat.reduceAdd, Nat.add_assoc] at h1 h2 h3 h
  exact ⟨h0 0 _ rfl, h1, h2 0 _ rfl, h2 1 _ rfl, h3, h 0 _ rfl, h 1 _ rfl, h 2 _ rfl⟩
theorem ent_range {g : Nat} {t : TypeId} {e : EntN} {w : World} (h : Cells g t (entV e) w) : w.rangeAt g 0 (entL e) := fun j v hj => by
  rw [Nat.zero_add, h.at, entV, List.getElem?_toArray]
  exact hj
theorem ent_cells {g : Nat} {t : TypeId} {e : EntN} {w : World} (hok : e.Ok) (h : Cells g t (entV e) w) :
    w.cell? ⟨g, 0, none⟩ = some (.int .i64 e.kind) ∧ w.rangeAt g 1 (draftL e.d) ∧ w.cell? ⟨g, 36, none⟩ = some (.int .i64 e.src) ∧ w.cell? ⟨g, 37, none⟩ = some (.int .i64 e.seq) ∧ w.rangeAt g 38 (nums .u8 e.prev) ∧
    w.cell? ⟨g, 70, none⟩ = some (.int .i64 e.mask) ∧ w.cell? ⟨g, 71, none⟩ = some (.string ⟨e.pay.toArray⟩) ∧ w.cell? ⟨g, 72, none⟩ = some (.string ⟨e.sig.toArray⟩) := by
  have k := ent_at hok (ent_range h)
  have h1 := k.draft
  have h3 := k.src
  have h4 := k.seq
  have h5 := k.prev
  have h6 := k.mask
  have h7 := k.pay
  have h8 := k.sig
  simp only [Nat.zero_add] at h1 h3 h4 h5 h6 h7 h8
  exact ⟨k.kind, h1, h3, h4, h5, h6, h7, h8⟩
def placeE : Nat → Option (Nat × Nat) := fun i => (#[(0, 1), (1, 35), (36, 1), (37, 1), (38, 32), (70, 1), (71, 1), (72, 1)] : Array (Nat × Nat))[i]?
theorem ent_fill (parts : List (Nat × Value)) : Tryd.prog.built 35 parts = Instr.fill placeE (entV noE) parts := by kernel_rfl
theorem fill_ent (i off size : Nat) (v : Value) (rest : List (Nat × Value)) (a b : EntN) (xs ys zs vs : List Value) (hp : placeE i = some (off, size)) (ha : entL a = xs ++ (ys ++ zs)) (hb : entL b = xs ++ (vs ++ zs)) (hv : v.cells.toList = vs) (h1 : vs.length = size) (h2 : ys.length = size) (h3 : xs.length = off) :
    Instr.fill placeE (entV a) ((i, v) :: rest) = Instr.fill placeE (entV b) rest := by
  rw [entV, entV, ha, hb]
  exact fill_lay placeE i off size v rest xs ys zs vs hp hv h1 h2 h3
section
variable (a : EntN) (rest : List (Nat × Value))
theorem fill_kind (k : Int) : Instr.fill placeE (entV a) ((0, .int .i64 k) :: rest) = Instr.fill placeE (entV { a with kind := k }) rest :=
  fill_ent 0 0 1 _ rest a { a with kind := k } [] [.int .i64 a.kind] _ [.int .i64 k] rfl rfl rfl rfl rfl rfl rfl
theorem fill_draft (ha : a.Ok) (d : DraftN) (hd : IdOk d.ref) : Instr.fill placeE (entV a) ((1, .agg (draftV d)) :: rest) = Instr.fill placeE (entV { a with d := d }) rest :=
  fill_ent 1 1 35 _ rest a { a with d := d } [.int .i64 a.kind] (draftL a.d) _ (draftL d) rfl rfl rfl rfl (draftL_len hd.1) (draftL_len ha.ref.1) rfl
theorem fill_mask (ha : a.Ok) (k : Int) : Instr.fill placeE (entV a) ((5, .int .i64 k) :: rest) = Instr.fill placeE (entV { a with mask := k }) rest :=
  fill_ent 5 70 1 _ rest a { a with mask := k } ([.int .i64 a.kind] ++ (draftL a.d ++ ([.int .i64 a.src, .int .i64 a.seq] ++ nums .u8 a.prev))) [.int .i64 a.mask] [.string ⟨a.pay.toArray⟩, .string ⟨a.sig.toArray⟩] [.int .i64 k] rfl (by simp [entL, entT]) (by simp [entL, entT]) rfl rfl rfl (by simp [draftL_len ha.ref.1, nums_len, ha.prev.1])
theorem fill_pay (ha : a.Ok) (s : List UInt8) : Instr.fill placeE (entV a) ((6, .string ⟨s.toArray⟩) :: rest) = Instr.fill placeE (entV { a with pay := s }) rest :=
  fill_ent 6 71 1 _ rest a { a with pay := s } ([.int .i64 a.kind] ++ (draftL a.d ++ ([.int .i64 a.src, .int .i64 a.seq] ++ (nums .u8 a.prev ++ [.int .i64 a.mask])))) [.string ⟨a.pay.toArray⟩] [.string ⟨a.sig.toArray⟩] [.string ⟨s.toArray⟩] rfl (by simp [entL, entT]) (by simp [entL, entT]) rfl rfl rfl (by simp [draftL_len ha.ref.1, nums_len, ha.prev.1])
end
def outE (m : Int) (p : List UInt8) : EntN := ⟨3, noD, 0, 0, zeroI, m, p, []⟩
theorem outE_ok (m : Int) (p : List UInt8) : (outE m p).Ok := ⟨zeroI_ok, zeroI_ok⟩
theorem built_out (m : Int) (p : List UInt8) : Tryd.prog.built 35 [(0, .int .i64 3), (5, .int .i64 m), (6, .string ⟨p.toArray⟩)] = some (entV (outE m p)) := by
  rw [ent_fill, fill_kind, fill_mask _ _ ⟨zeroI_ok, zeroI_ok⟩, fill_pay _ _ ⟨zeroI_ok, zeroI_ok⟩, fill_end]
  rfl
theorem ent_fields : (Tryd.prog.fieldsOf 35).toList.map (fun f => (f.name, f.type, f.offset)) = [("Kind", 3, 0), ("Draft", 33, 1), ("From", 3, 36), ("Seq", 3, 37), ("Prev", 24, 38), ("Mask", 3, 70), ("Payload", 9, 71), ("Sig", 9, 72)] := by kernel_rfl
theorem fields8 {l : List Field} {a b c d e f g h : String × TypeId × Nat} (hl : l.map (fun f => (f.name, f.type, f.offset)) = [a, b, c, d, e, f, g, h]) : ∃ f0 f1 f2 f3 f4 f5 f6 f7, l = [f0, f1, f2, f3, f4, f5, f6, f7] ∧ (f0.name, f0.type, f0.offset) = a ∧ (f1.name, f1.type, f1.offset) = b ∧ (f2.name, f2.type, f2.offset) = c ∧ (f3.name, f3.type, f3.offset) = d ∧ (f4.name, f4.type, f4.offset) = e ∧ (f5.name, f5.type, f5.offset) = f ∧ (f6.name, f6.type, f6.offset) = g ∧ (f7.name, f7.type, f7.offset) = h := by
  have hn := congrArg List.length hl
  rw [List.length_map] at hn
  simp only [List.length_cons, List.length_nil] at hn
  match l, hn with
  | [f0, f1, f2, f3, f4, f5, f6, f7], _ =>
    simp only [List.map_cons, List.map_nil, List.cons.injEq, and_true] at hl
    exact ⟨f0, f1, f2, f3, f4, f5, f6, f7, rfl, hl⟩
theorem ext_mid (xs ys zs : List Value) (n m : Nat) (h1 : xs.length = n) (h2 : ys.length = m) : (xs ++ (ys ++ zs)).toArray.extract n (n + m) = ys.toArray := by
  apply Array.ext'
  rw [List.extract_toArray, List.toList_toArray, List.extract_eq_take_drop, ← h1, List.drop_left, ← h2, Nat.add_sub_cancel_left, List.take_left]
theorem get_mid (xs : List Value) (y : Value) (zs : List Value) (n : Nat) (h1 : xs.length = n) : (xs ++ (y :: zs)).toArray[n]? = some y := by
  rw [List.getElem?_toArray, List.getElem?_append_right (by omega), h1, Nat.sub_self]
  rfl
theorem ent_part (e : EntN) (he : e.Ok) (w : World) : (Go.part 3 (entV e) 0).run Tryd.prog w = .ok (.int .i64 e.kind) w ∧ (Go.part 33 (entV e) 1).run Tryd.prog w = .ok (.agg (draftV e.d)) w ∧
    (Go.part 3 (entV e) 36).run Tryd.prog w = .ok (.int .i64 e.src) w ∧ (Go.part 3 (entV e) 37).run Tryd.prog w = .ok (.int .i64 e.seq) w ∧ (Go.part 24 (entV e) 38).run Tryd.prog w = .ok (.agg (nums .u8 e.prev).toArray) w ∧
    (Go.part 3 (entV e) 70).run Tryd.prog w = .ok (.int .i64 e.mask) w ∧ (Go.part 9 (entV e) 71).run Tryd.prog w = .ok (.string ⟨e.pay.toArray⟩) w ∧ (Go.part 9 (entV e) 72).run Tryd.prog w = .ok (.string ⟨e.sig.toArray⟩) w := by
  have hd := draftL_len he.ref.1
  have hp := he.prev.1
  refine ⟨part_cell (by kernel_rfl) rfl, part_row (n := 35) (by kernel_rfl) (by kernel_rfl) (ext_mid [.int .i64 e.kind] (draftL e.d) _ 1 35 rfl hd), part_cell (by kernel_rfl) ?_, part_cell (by kernel_rfl) ?_, part_row (n := 32) (by kernel_rfl) (by kernel_rfl) ?_, part_cell (by kernel_rfl) ?_, part_cell (by kernel_rfl) ?_, part_cell (by kernel_rfl) ?_⟩
  · have h := get_mid ([.int .i64 e.kind] ++ draftL e.d) (.int .i64 e.src) ([.int .i64 e.seq] ++ (nums .u8 e.prev ++ entT e)) 36 (by simp [hd])
    rw [← h]
    simp [entV, entL]
  · have h := get_mid ([.int .i64 e.kind] ++ (draftL e.d ++ [.int .i64 e.src])) (.int .i64 e.seq) (nums .u8 e.prev ++ entT e) 37 (by simp [hd])
    rw [← h]
    simp [entV, entL]
  · have h := ext_mid ([.int .i64 e.kind] ++ (draftL e.d ++ [.int .i64 e.src, .int .i64 e.seq])) (nums .u8 e.prev) (entT e) 38 32 (by simp [hd]) (by rw [nums_len, hp])
    rw [← h]
    simp [entV, entL]
  · have h := get_mid ([.int .i64 e.kind] ++ (draftL e.d ++ ([.int .i64 e.src, .int .i64 e.seq] ++ nums .u8 e.prev))) (.int .i64 e.mask) [.string ⟨e.pay.toArray⟩, .string ⟨e.sig.toArray⟩] 70 (by simp [hd, nums_len, hp])
    rw [← h]
    simp [entV, entL, entT]
  · have h := get_mid ([.int .i64 e.kind] ++ (draftL e.d ++ ([.int .i64 e.src, .int .i64 e.seq] ++ (nums .u8 e.prev ++ [.int .i64 e.mask])))) (.string ⟨e.pay.toArray⟩) [.string ⟨e.sig.toArray⟩] 71 (by simp [hd, nums_len, hp])
    rw [← h]
    simp [entV, entL, entT]
  · have h := get_mid ([.int .i64 e.kind] ++ (draftL e.d ++ ([.int .i64 e.src, .int .i64 e.seq] ++ (nums .u8 e.prev ++ [.int .i64 e.mask, .string ⟨e.pay.toArray⟩])))) (.string ⟨e.sig.toArray⟩) [] 72 (by simp [hd, nums_len, hp])
    rw [← h]
    simp [entV, entL, entT]
theorem equal_draft_at (k : Nat) (a b : DraftN) (ha : IdOk a.ref) (hb : IdOk b.ref) (w : World) :
    (Op.equalIn (k + 3) 33 (.agg (draftV a)) (.agg (draftV b))).run Tryd.prog w = .ok (decide (a = b)) w := by
  have hs := run_equalIn_struct (P := Tryd.prog) w (k + 2) 33 (draftV a) (draftV b) (by kernel_rfl) (by kernel_rfl)
  rw [show k + 2 + 1 = k + 3 from rfl] at hs
  rw [hs]
  obtain ⟨f0, f1, f2, f3, hf, h0, h1, h2, h3⟩ := fields4 draft_fields
  rw [hf]
  obtain ⟨p0, p1, p2, p3⟩ := draft_part a ha.1 w
  obtain ⟨q0, q1, q2, q3⟩ := draft_part b hb.1 w
  have e0 := run_equalIn_int (P := Tryd.prog) w (k + 1) 3 .i64 .i64 a.kind b.kind Tryd.underlying3
  have e1 := run_equal_text (P := Tryd.prog) (w := w) (k + 1) 9 a.key b.key Tryd.underlying9
  have e2 := run_equal_text (P := Tryd.prog) (w := w) (k + 1) 9 a.val b.val Tryd.underlying9
  have e3 : (Op.equalIn (k + 2) 24 (.agg (nums .u8 a.ref).toArray) (.agg (nums .u8 b.ref).toArray)).run Tryd.prog w = .ok (a.ref == b.ref) w := by
    rw [cells_txt ha.2, cells_txt hb.2, run_equalIn_bytes w k 24 5 32 Tryd.underlying24 Tryd.underlying5 Tryd.sizeOf5 (txt a.ref) (txt b.ref) (by rw [txt_len, ha.1]) (by rw [txt_len, hb.1]), txt_beq ha.2 hb.2]
  have h := eqFields_cons h0 (by decide) p0 q0 e0 (eqFields_cons h1 (by decide) p1 q1 e1 (eqFields_cons h2 (by decide) p2 q2 e2 (eqFields_cons h3 (by decide) p3 q3 e3 eqFields_nil)))
  rw [h, ← eqDB_eq]
  rfl
def eqEB (a b : EntN) : Bool := (a.kind == b.kind) && (decide (a.d = b.d) && ((a.src == b.src) && ((a.seq == b.seq) && ((a.prev == b.prev) && ((a.mask == b.mask) && ((a.pay == b.pay) && ((a.sig == b.sig) && true)))))))
theorem eqEB_eq (a b : EntN) : eqEB a b = decide (a = b) := by
  obtain ⟨a1, a2, a3, a4, a5, a6, a7, a8⟩ := a
  obtain ⟨b1, b2, b3, b4, b5, b6, b7, b8⟩ := b
  simp only [eqEB, EntN.mk.injEq]
  rw [Bool.eq_iff_iff]
  simp
theorem equal_ent (a b : EntN) (ha : a.Ok) (hb : b.Ok) (w : World) :
    (Op.equalIn 10000 35 (.agg (entV a)) (.agg (entV b))).run Tryd.prog w = .ok (decide (a = b)) w := by
  have hs := run_equalIn_struct (P := Tryd.prog) w 9999 35 (entV a) (entV b) (by kernel_rfl) (by kernel_rfl)
  rw [show 9999 + 1 = 10000 from rfl] at hs
  rw [hs]
  obtain ⟨f0, f1, f2, f3, f4, f5, f6, f7, hf, h0, h1, h2, h3, h4, h5, h6, h7⟩ := fields8 ent_fields
  rw [hf]
  obtain ⟨p0, p1, p2, p3, p4, p5, p6, p7⟩ := ent_part a ha w
  obtain ⟨q0, q1, q2, q3, q4, q5, q6, q7⟩ := ent_part b hb w
  have e0 := run_equalIn_int (P := Tryd.prog) w 9998 3 .i64 .i64 a.kind b.kind Tryd.underlying3
  have e1 := equal_draft_at 9996 a.d b.d ha.ref hb.ref w
  have e2 := run_equalIn_int (P := Tryd.prog) w 9998 3 .i64 .i64 a.src b.src Tryd.underlying3
  have e3 := run_equalIn_int (P := Tryd.prog) w 9998 3 .i64 .i64 a.seq b.seq Tryd.underlying3
  have e4 : (Op.equalIn 9999 24 (.agg (nums .u8 a.prev).toArray) (.agg (nums .u8 b.prev).toArray)).run Tryd.prog w = .ok (a.prev == b.prev) w := by
    rw [cells_txt ha.prev.2, cells_txt hb.prev.2, run_equalIn_bytes w 9997 24 5 32 Tryd.underlying24 Tryd.underlying5 Tryd.sizeOf5 (txt a.prev) (txt b.prev) (by rw [txt_len, ha.prev.1]) (by rw [txt_len, hb.prev.1]), txt_beq ha.prev.2 hb.prev.2]
  have e5 := run_equalIn_int (P := Tryd.prog) w 9998 3 .i64 .i64 a.mask b.mask Tryd.underlying3
  have e6 := run_equal_text (P := Tryd.prog) (w := w) 9998 9 a.pay b.pay Tryd.underlying9
  have e7 := run_equal_text (P := Tryd.prog) (w := w) 9998 9 a.sig b.sig Tryd.underlying9
  have h := eqFields_cons h0 (by decide) p0 q0 e0 (eqFields_cons h1 (by decide) p1 q1 e1 (eqFields_cons h2 (by decide) p2 q2 e2 (eqFields_cons h3 (by decide) p3 q3 e3 (eqFields_cons h4 (by decide) p4 q4 e4 (eqFields_cons h5 (by decide) p5 q5 e5 (eqFields_cons h6 (by decide) p6 q6 e6 (eqFields_cons h7 (by decide) p7 q7 e7 eqFields_nil)))))))
  rw [h, ← eqEB_eq]
  rfl
theorem eql_ent (a b : EntN) (ha : a.Ok) (hb : b.Ok) (w : World) : (binOp .eql 35 (.agg (entV a)) (.agg (entV b))).run Tryd.prog w = .ok (.bool (decide (a = b))) w := by
  rw [run_eql_struct, equal_ent a b ha hb]
  rfl
theorem guard_ent (op : BinOp) (hop : op = .eql ∨ op = .neq) (x y : Operand) (u v : Array Value) (w : World) : (eqGuard op 35 x y (.agg u) (.agg v)).run Tryd.prog w = .ok () w := by
  rcases hop with rfl | rfl
  · exact run_eqGuard_agg w .eql 35 x y u v (by kernel_rfl)
  · exact run_eqGuard_agg w .neq 35 x y u v (by kernel_rfl)
section
variable (a : EntN) (ha : a.Ok)
include ha
omit ha in
end
structure EntN.Len (e : EntN) : Prop where
  ok : e.Ok
  key : e.d.key.length ≤ 140737488351232
  val : e.d.val.length ≤ 140737488351232
  pay : e.pay.length ≤ 140737488351232
  sig : e.sig.length ≤ 140737488351232
end Go.Proofs.YtpfhlhcnmeodbaaDoor
namespace Go.Proofs.YtpfhlhcnmeodbaaDoor
open Go.ChangeShapes Go.WideShapes Go.ChangeAt Go.RowKit
theorem law_own : ownKnob Tryd.prog.godebug = none := by kernel_rfl
theorem law_laidOut : laidOutB Tryd.prog = true := by kernel_rfl
end Go.Proofs.YtpfhlhcnmeodbaaDoor
namespace Go.Proofs.YtpfhlhcnmeodbaaDoor
open Go.RowKit Go.BigFrame Go.ChangeShapes Go.WideShapes Go.Deep
def RAt (K : Nat) (ao : Option Addr) (C : List (List Value)) (w : World) : Prop :=
  C = [] ∨ ∃ b o, ao = some ⟨b, o, none⟩ ∧ b < w.heap.size ∧ ∀ (i : Nat) (c : List Value), C[i]? = some c → w.rangeAt b (o + i * K) c
theorem RAt.below {K : Nat} {ao : Option Addr} {C : List (List Value)} {w w' : World} (h : RAt K ao C w) (hb : Below w.heap.size w w') : RAt K ao C w' := by
  rcases h with h | ⟨b, o, h1, h2, h3⟩
  · exact .inl h
  · exact .inr ⟨b, o, h1, Nat.lt_of_lt_of_le h2 hb.size, fun i c hc j v hv => (hb.cell (p := ⟨b, o + i * K + j, none⟩) h2).trans (h3 i c hc j v hv)⟩
theorem RAt.get {K : Nat} {ao : Option Addr} {C : List (List Value)} {w : World} (h : RAt K ao C w) {i : Nat} {c : List Value} (hc : C[i]? = some c) : ∃ b o, ao = some ⟨b, o, none⟩ ∧ b < w.heap.size ∧ w.rangeAt b (o + i * K) c := by
  rcases h with rfl | ⟨b, o, h1, h2, h3⟩
  · cases hc
  · exact ⟨b, o, h1, h2, h3 i c hc⟩
theorem RAt.getM {α : Type} {K : Nat} {f : α → List Value} {ao : Option Addr} {L : List α} {w : World} (h : RAt K ao (L.map f) w) {i : Nat} {x : α} (hx : L[i]? = some x) : ∃ b o, ao = some ⟨b, o, none⟩ ∧ b < w.heap.size ∧ w.rangeAt b (o + i * K) (f x) :=
  h.get (by rw [List.getElem?_map, hx]; rfl)
theorem RowK.rat {K : Nat} {e : TypeId} {ao : Option Addr} {n c : Nat} {C : List (List Value)} {w : World} (h : RowK K e (.slice ao n c) C w) (hW : Wide K C) : RAt K ao C w := by
  by_cases h0 : C = []
  · exact .inl h0
  · obtain ⟨g, cap, hv⟩ := h.formB (List.length_pos_iff.2 h0)
    simp only [Value.slice.injEq] at hv
    obtain ⟨rfl, rfl, rfl⟩ := hv
    have hl := h.lt (g := g) rfl
    refine .inr ⟨g, 0, rfl, hl, fun i c hc => ?_⟩
    obtain ⟨hi, rfl⟩ := List.getElem?_eq_some_iff.1 hc
    have h1 := RowK.at rfl h hW hi
    rw [List.getD_eq_getElem?_getD, List.getElem?_eq_getElem hi] at h1
    rw [Nat.zero_add, Nat.mul_comm]
    exact h1
theorem wide_map {α : Type} {K : Nat} {f : α → List Value} {L : List α} (h : ∀ x ∈ L, (f x).length = K) : Wide K (L.map f) := fun c hc => by
  obtain ⟨x, hx, rfl⟩ := List.mem_map.1 hc
  exact h x hx
def OwnR (B K : Nat) (e : TypeId) (v : Value) (C : List (List Value)) (w : World) : Prop := w.ownsRow B e K v C.length C.flatten
theorem OwnR.nil (B K : Nat) (e : TypeId) (w : World) : OwnR B K e (.slice none 0 0) [] w := World.ownsRow_nil _ _ _ _
theorem OwnR.mono {B B' K : Nat} {e : TypeId} {v : Value} {C : List (List Value)} {w : World} (h : OwnR B K e v C w) (hB : B' ≤ B) : OwnR B' K e v C w := by
  refine ⟨h.1, ?_⟩
  rcases h.2 with h0 | ⟨g, cap, cur, hv, hg, r⟩
  · exact Or.inl h0
  · exact Or.inr ⟨g, cap, cur, hv, Nat.le_trans hB hg, r⟩
theorem OwnR.row {B K : Nat} {e : TypeId} {v : Value} {C : List (List Value)} {w : World} (h : OwnR B K e v C w) : RowK K e v C w := h.mono (Nat.zero_le _)
theorem OwnR.form {B K : Nat} {e : TypeId} {v : Value} {C : List (List Value)} {w : World} (h : OwnR B K e v C w) : ∃ ao cap, v = .slice ao C.length cap := h.row.form
theorem OwnR.only {B K : Nat} {e : TypeId} {v : Value} {C : List (List Value)} {w w' : World} {O : Nat → Prop} (h : OwnR B K e v C w) (k : Only O w w') (hO : ∀ g, v.ownBlock = some g → ¬ O g) : OwnR B K e v C w' := by
  refine ⟨h.1, ?_⟩
  rcases h.2 with h2 | ⟨g, cap, cur, h1, h2, h3, h4⟩
  · exact .inl h2
  · exact .inr ⟨g, cap, cur, h1, h2, (k.block g (lt_of_block h3) (hO g (by rw [h1]; rfl))).trans h3, h4⟩
theorem OwnR.rat {B K : Nat} {e : TypeId} {ao : Option Addr} {n c : Nat} {C : List (List Value)} {w : World} (h : OwnR B K e (.slice ao n c) C w) (hW : Wide K C) : RAt K ao C w := h.row.rat hW
end Go.Proofs.YtpfhlhcnmeodbaaDoor
namespace Go.Proofs.YtpfhlhcnmeodbaaDoor
open Go.RowKit Go.BigFrame
def EntsAt (ao : Option Addr) (L : List EntN) (w : World) : Prop := RAt 73 ao (L.map entL) w
def OwnE15 (B : Nat) (v : Value) (L : List EntN) (w : World) : Prop := OwnR B 73 35 v (L.map entL) w ∧ ∀ x ∈ L, x.Ok
theorem OwnE15.nil (B : Nat) (w : World) : OwnE15 B (.slice none 0 0) [] w := ⟨OwnR.nil _ _ _ _, fun x hx => by cases hx⟩
theorem OwnE15.form {B : Nat} {v : Value} {L : List EntN} {w : World} (h : OwnE15 B v L w) : ∃ ao cap, v = .slice ao L.length cap := by
  have := h.1.form
  rwa [List.length_map] at this
theorem Tryd.infoE73 : ∃ bytes, bytes ≤ 1024 ∧ (Tryd.prog.info? 35).map (fun i => (i.zero, i.size, i.bytes)) = some (some (.agg (entV noE)), 73, bytes) := ⟨168, by decide, by kernel_rfl⟩
theorem built_ent1 (y : EntN) (hy : y.Ok) (w : World) : (Instr.buildSlice 23 1 #[(0, .agg (entL y).toArray)]).run Tryd.prog w = .ok (.slice (some ⟨w.heap.size, 0, none⟩) 1 1) (w.alloc (.cells (entL y).toArray 35)) := by
  obtain ⟨bytes, hby, hinfo⟩ := Tryd.infoE73
  exact run_build_wide 23 35 (entL y) _ _ _ Tryd.underlying23 hinfo (entL_len hy) (by decide) (by decide) w
end Go.Proofs.YtpfhlhcnmeodbaaDoor
namespace Go.Proofs.YtpfhlhcnmeodbaaDoor
open Go.RowKit Go.BigFrame
def nodeV (root : List Nat) (h : Int) : Array Value := (nums .u8 root ++ [Value.int .i64 h]).toArray
theorem node_height {g : Nat} {t : TypeId} {root : List Nat} {h : Int} {w : World} (hr : root.length = 16) (hc : Cells g t (nodeV root h) w) : w.cell? ⟨g, 16, none⟩ = some (.int .i64 h) := by
  rw [Lib.cell_of_heap hc, nodeV, List.getElem?_toArray, List.getElem?_append_right (by rw [nums_len, hr]; decide), nums_len, hr]
  rfl
theorem node_root {g : Nat} {t : TypeId} {root : List Nat} {h : Int} {w : World} (hc : Cells g t (nodeV root h) w) : w.rangeAt g 0 (nums .u8 root) := by
  intro j v hj
  rw [Nat.zero_add, Lib.cell_of_heap hc, nodeV, List.getElem?_toArray, List.getElem?_append_left (List.getElem?_eq_some_iff.1 hj).1, hj]
theorem op_slice_head {P : Program} {o : Oper} {a : Act} {w : World} {K : Act → World → Prop} {Q : Exit → Act → World → Prop} (ty : TypeId) (x : Operand) (n : Nat) (ho : o.op = .slice ty x none (some (.const (.int .i64 n))) none) (s : List UInt8) (hx : a.eval x = .string ⟨s.toArray⟩)
    (hu : P.underlying ty = some .string) (hn : n ≤ s.length) (h : K (a.put o.dst (.string ⟨(s.take n).toArray⟩)) w) : OpWp P o a w K Q := by
  have hr := run_slice_string_h (P := P) w ty ⟨s.toArray⟩ hu .i64 (n : Int) (by omega) (by show (n : Int) ≤ ((⟨s.toArray⟩ : ByteArray).size : Int); simp [ByteArray.size]; omega)
  rw [Int.toNat_natCast, extract_head] at hr
  have hr2 := (run_sliceAt_string (P := P) w ty (.string ⟨s.toArray⟩) none (some (.int .i64 (n : Int))) none hu).trans hr
  refine ⟨?_⟩
  unfold Oper.wp execOp
  simp only [ho, Option.map_some, Option.map_none, show a.eval (.const (.int .i64 (n : Int))) = .int .i64 (n : Int) from rfl, hx, Sem.run_bind, Sem.run_pure, hr2, Result.andThen_ok]
  exact h
theorem op_field0 {P : Program} {o : Oper} {a : Act} {w : World} {K : Act → World → Prop} {Q : Exit → Act → World → Prop} (ty : TypeId) (x : Operand) (ho : o.op = .fieldAddr ty x 0) (g : Nat) (hx : a.eval x = .pointer (some ⟨g, 0, none⟩))
    (hr : ∀ w, (Instr.fieldAt ty (.pointer (some ⟨g, 0, none⟩)) 0).run P w = .ok (.pointer (some ⟨g, 0, none⟩)) w) (h : K (a.put o.dst (.pointer (some ⟨g, 0, none⟩))) w) : OpWp P o a w K Q := by
  refine ⟨?_⟩
  unfold Oper.wp execOp
  simp only [ho, hx, Sem.run_bind, Sem.run_pure, hr, Result.andThen_ok]
  exact h
end Go.Proofs.YtpfhlhcnmeodbaaDoor
namespace Go.Proofs.YtpfhlhcnmeodbaaDoor
open Go.RowKit Go.BigFrame
theorem node_fill (parts : List (Nat × Value)) : Tryd.prog.built 63 parts = Instr.fill (fun i => (#[(0, 16), (16, 1)] : Array (Nat × Nat))[i]?) (nodeV (List.replicate 16 0) 0) parts := by kernel_rfl
theorem fold_lay0 : ∀ (vs : List Value) (cs : Array Value) (k : Nat), List.foldl (fun (cs : Array Value) (x : Value × Nat) => cs.setIfInBounds (0 + x.2) x.1) cs (vs.zipIdx k) = (layL cs.toList k vs).toArray
  | [], cs, k => by simp [layL]
  | v :: r, cs, k => by rw [List.zipIdx_cons, List.foldl_cons, fold_lay0 r, layL]; simp
theorem lay_head {vs xs ys : List Value} (h : vs.length = xs.length) : layL (xs ++ ys) 0 vs = vs ++ ys := by
  refine List.ext_getElem? fun j => ?_
  rw [layL_get _ _ _ _ (by rw [List.length_append]; omega)]
  by_cases hj : j < vs.length
  · rw [if_pos (by omega), Nat.sub_zero, List.getElem?_append_left hj]
  · rw [if_neg (by omega), List.getElem?_append_right (by omega), List.getElem?_append_right (by omega), h]
theorem fill_next (place : Nat → Option (Nat × Nat)) (cells : Array Value) (i : Nat) (v : Value) (rest : List (Nat × Value)) (off size : Nat) (hp : place i = some (off, size)) (h1 : v.cells.size = size) (h2 : off + size ≤ cells.size) :
    Instr.fill place cells ((i, v) :: rest) = Instr.fill place (v.cells.toList.zipIdx.foldl (fun (cs : Array Value) (x : Value × Nat) => cs.setIfInBounds (off + x.2) x.1) cells) rest := by
  rw [Instr.fill]
  simp only [hp]
  rw [if_neg (by simp [h1]; omega)]
  congr 1
  rw [← Array.foldl_toList, Array.toList_zipIdx]
theorem built_node (r : List Nat) (h : Int) (hr : r.length = 16) : Tryd.prog.built 63 [(0, .agg (nums .u8 r).toArray), (1, .int .i64 h)] = some (nodeV r h) := by
  have h16 : (nums .u8 r).length = 16 := by rw [nums_len, hr]
  rw [node_fill]
  have e2 : (nodeV r 0).setIfInBounds (16 + 0) (.int .i64 h) = nodeV r h := by
    rw [nodeV, nodeV, List.setIfInBounds_toArray, List.set_append_right _ _ (by omega), h16]
    rfl
  have hs1 : (Value.agg (nums .u8 r).toArray).cells.size = 16 := by show (nums .u8 r).toArray.size = 16; rw [List.size_toArray, h16]
  have hs2 : (nodeV r 0).size = 17 := by rw [nodeV, List.size_toArray, List.length_append, h16]; rfl
  have hs3 : (nodeV (List.replicate 16 0) 0).size = 17 := by rfl
  rw [fill_next _ _ 0 _ _ 0 16 rfl hs1 (by rw [hs3]; decide)]
  rw [show (Value.agg (nums .u8 r).toArray).cells.toList = nums .u8 r from rfl, fold_lay0, show (nodeV (List.replicate 16 0) 0).toList = nums .u8 (List.replicate 16 0) ++ [Value.int .i64 0] from rfl, lay_head (by rw [nums_len, nums_len, hr]; rfl)]
  rw [show (nums .u8 r ++ [Value.int .i64 0]).toArray = nodeV r 0 from rfl]
  rw [fill_next _ _ 1 _ _ 16 1 rfl rfl (by rw [hs2]; decide)]
  show some ((nodeV r 0).setIfInBounds (16 + 0) (.int .i64 h)) = _
  rw [e2]
theorem wpList_build_node {ops : Array Oper} {rest : List Oper} {o : Oper} {a : Act} {w : World} {Q : Exit → Act → World → Prop} (hg : o.guard = none) (x y : Operand) (ho : o.op = .build 63 #[(0, x), (1, y)]) (r : List Nat) (h : Int)
    (hx : a.eval x = .agg (nums .u8 r).toArray) (hy : a.eval y = .int .i64 h) (hr : r.length = 16) (hk : wpList Tryd.prog ops Q rest (a.put o.dst (.agg (nodeV r h))) w) : wpList Tryd.prog ops Q (o :: rest) a w := by
  refine wpList_plain hg fun K hK => ?_
  have e : ((#[(0, x), (1, y)] : Array (Nat × Operand)).map fun (i, x) => (i, a.eval x)) = #[(0, .agg (nums .u8 r).toArray), (1, .int .i64 h)] := by simp [hx, hy]
  have hb := run_build (P := Tryd.prog) w 63 #[(0, .agg (nums .u8 r).toArray), (1, .int .i64 h)] _ (built_node r h hr)
  unfold Oper.wp execOp
  simp only [ho, e, Sem.run_bind, hb, Result.andThen_ok]
  exact hK _ _ hk
theorem quiet_build_node {o : Oper} {a : Act} {C : World → Prop} {K : Act → Prop} (x y : Operand) (ho : o.op = .build 63 #[(0, x), (1, y)]) (r : List Nat) (h : Int)
    (hx : a.eval x = .agg (nums .u8 r).toArray) (hy : a.eval y = .int .i64 h) (hr : r.length = 16) (hk : K (a.put o.dst (.agg (nodeV r h)))) : o.quiet Tryd.prog a C K := by
  refine ⟨_, fun w hw => ?_, hk⟩
  have e : ((#[(0, x), (1, y)] : Array (Nat × Operand)).map fun (i, x) => (i, a.eval x)) = #[(0, .agg (nums .u8 r).toArray), (1, .int .i64 h)] := by simp [hx, hy]
  have hb := run_build (P := Tryd.prog) w 63 #[(0, .agg (nums .u8 r).toArray), (1, .int .i64 h)] _ (built_node r h hr)
  unfold Oper.quietAt execOp
  simp only [ho, e, Sem.run_bind, hb, Result.andThen_ok]
  exact ⟨rfl, rfl⟩
end Go.Proofs.YtpfhlhcnmeodbaaDoor
namespace Go.Proofs.YtpfhlhcnmeodbaaDoor
open Go.RowKit Go.BigFrame
def autL (a : AuthN) : List Value := [.int .i64 a.node, .int .i64 a.seq] ++ (nums .u8 a.hash ++ [.string ⟨a.sig.toArray⟩])
def autV (a : AuthN) : Array Value := (autL a).toArray
theorem autL_len {a : AuthN} (h : IdOk a.hash) : (autL a).length = 35 := by simp only [autL, List.length_append, nums_len, h.1, List.length_cons, List.length_nil]
theorem autL_one (a : AuthN) : ∀ u ∈ autL a, u.oneCell' = true := fun u hu => by
  simp only [autL, List.mem_append, List.mem_cons, List.not_mem_nil, or_false] at hu
  rcases hu with (rfl | rfl) | hu | rfl
  · rfl
  · rfl
  · exact nums_one _ _ u hu
  · rfl
theorem autV_all (a : AuthN) : (autV a).all (·.oneCell') = true := by
  rw [autV, List.all_toArray]
  exact List.all_eq_true.2 (autL_one a)
theorem autV_size {a : AuthN} (h : IdOk a.hash) : (autV a).size = 35 := autL_len h
theorem Tryd.sizeAu : (Tryd.prog.info? 26).map (·.size) = some 35 := by kernel_rfl
theorem sizeAV {a : AuthN} (h : IdOk a.hash) : (Tryd.prog.info? 26).map (·.size) = some (autV a).size := by rw [autV_size h]; exact Tryd.sizeAu
theorem aut_at {b o : Nat} {a : AuthN} {w : World} (hok : IdOk a.hash) (h : w.rangeAt b o (autL a)) :
    w.cell? ⟨b, o, none⟩ = some (.int .i64 a.node) ∧ w.cell? ⟨b, o + 1, none⟩ = some (.int .i64 a.seq) ∧ w.rangeAt b (o + 2) (nums .u8 a.hash) ∧ w.cell? ⟨b, o + 34, none⟩ = some (.string ⟨a.sig.toArray⟩) := by
  obtain ⟨h0, h⟩ := rangeAt_app h
  obtain ⟨h1, h⟩ := rangeAt_app h
  simp only [List.length_cons, List.length_nil, nums_len, hok.1, Nat.zero_add, Nat.reduceAdd, Nat.add_assoc] at h1 h
  exact ⟨h0 0 _ rfl, h0 1 _ rfl, h1, h 0 _ rfl⟩
theorem aut_range {g : Nat} {t : TypeId} {a : AuthN} {w : World} (h : Cells g t (autV a) w) : w.rangeAt g 0 (autL a) := fun j v hj => by
  rw [Nat.zero_add, h.at, autV, List.getElem?_toArray]
  exact hj
theorem aut_cells {g : Nat} {t : TypeId} {a : AuthN} {w : World} (hok : IdOk a.hash) (h : Cells g t (autV a) w) :
    w.cell? ⟨g, 0, none⟩ = some (.int .i64 a.node) ∧ w.cell? ⟨g, 1, none⟩ = some (.int .i64 a.seq) ∧ w.rangeAt g 2 (nums .u8 a.hash) ∧ w.cell? ⟨g, 34, none⟩ = some (.string ⟨a.sig.toArray⟩) := by
  have k := aut_at hok (aut_range h)
  simp only [Nat.zero_add] at k
  exact k
def placeA : Nat → Option (Nat × Nat) := fun i => (#[(0, 1), (1, 1), (2, 32), (34, 1)] : Array (Nat × Nat))[i]?
theorem aut_fill (parts : List (Nat × Value)) : Tryd.prog.built 26 parts = Instr.fill placeA (autV noA) parts := by kernel_rfl
theorem built_aut0 : Tryd.prog.built 26 [] = some (autV noA) := by rw [aut_fill]; rfl
def nodL (n : NodeN) : List Value := nums .u8 n.root ++ [.int .i64 n.height]
theorem nodL_len {n : NodeN} (h : n.Ok) : (nodL n).length = 17 := by rw [nodL, List.length_append, nums_len, h.root.1]; rfl
theorem Tryd.sizeNo : (Tryd.prog.info? 63).map (·.size) = some 17 := by kernel_rfl
theorem cells_range {g : Nat} {t : TypeId} {L : List Value} {w : World} (h : Cells g t L.toArray w) : w.rangeAt g 0 L := fun j v hj => by
  rw [Nat.zero_add, h.at, List.getElem?_toArray]
  exact hj
end Go.Proofs.YtpfhlhcnmeodbaaDoor
namespace Go.Proofs.YtpfhlhcnmeodbaaDoor
open Go.RowKit Go.BigFrame
def cutE (s : List UInt8) (k : Nat) : List (List Nat) := (List.range k).map fun j => byteNs (part s j)
theorem cutE_len (s : List UInt8) (k : Nat) : (cutE s k).length = k := by simp [cutE]
theorem cutE_next (s : List UInt8) (k : Nat) : cutE s (k + 1) = cutE s k ++ [byteNs (part s k)] := by simp [cutE, List.range_succ]
theorem byteNs_part_len {s : List UInt8} {j : Nat} (h : 16 * j + 16 ≤ s.length) : (byteNs (part s j)).length = 16 := by
  rw [byteNs, List.length_map, part, List.length_take, List.length_drop]
  omega
theorem cutE_ok {s : List UInt8} {k : Nat} (h : 16 * k ≤ s.length) : Elems (cutE s k) := by
  intro x hx
  obtain ⟨j, hj, rfl⟩ := List.mem_map.1 hx
  have := List.mem_range.1 hj
  exact ⟨byteNs_part_len (by omega), byteNs_part_lt _ _⟩
theorem cutE_drop (s : List UInt8) (k : Nat) : cutE (s.drop 560) k = pathK s k := by
  refine List.map_congr_left fun j _ => ?_
  rw [part, part, List.drop_drop]
  congr 3
  omega
def partC (s : List UInt8) (k i : Nat) : List (List Nat) := cutE s i ++ List.replicate (k - i) (List.replicate 16 0)
theorem partC_zero (s : List UInt8) (k : Nat) : partC s k 0 = List.replicate k (List.replicate 16 0) := by simp [partC, cutE]
theorem partC_full (s : List UInt8) (k : Nat) : partC s k k = cutE s k := by simp [partC]
theorem partC_len (s : List UInt8) {k i : Nat} (h : i ≤ k) : (partC s k i).length = k := by
  rw [partC, List.length_append, cutE_len, List.length_replicate]; omega
theorem partC_ok {s : List UInt8} {k i : Nat} (h : 16 * i ≤ s.length) : Elems (partC s k i) := (cutE_ok h).append (Elems.zeros _)
theorem partC_set (s : List UInt8) {k i : Nat} (h : i < k) : (partC s k i).set i (byteNs (part s i)) = partC s k (i + 1) := by
  rw [partC, partC, cutE_next, List.set_append_right _ _ (by rw [cutE_len]; exact Nat.le_refl _), cutE_len, Nat.sub_self, show k - i = (k - (i + 1)) + 1 by omega, List.replicate_succ, List.set_cons_zero, List.append_assoc]
  rfl
theorem run_copy_elem {P : Program} (w : World) (dT sT ty elem : TypeId) (B g n c i cap : Nat) (e : TypeId) (L : List (List Nat)) (s : List UInt8)
    (hu : P.underlying dT = some (.slice elem)) (hs : (P.info? elem).map (·.size) = some 1) (hn : n = L.length) (hO : OwnE B e (.slice (some ⟨g, 0, none⟩) n c) L w) (hL : Elems L) (hi : i < n) (h16 : 16 ≤ s.length) :
    (Builtin.copy_ #[dT, sT] ty #[.slice (some ⟨g, 16 * i, none⟩) 16 cap, .string ⟨s.toArray⟩]).run P w = .ok (goInt 16) (w.setCells g (16 * i) (nums .u8 (byteNs (s.take 16)))) := by
  have hlen : (Lib.byteCells (s.take 16)).length = 16 := by rw [Lib.byteCells_length, List.length_take]; omega
  have hth := hO.there hn hL hi
  have hst := run_storeCells_cells (P := P) g (16 * i) (Lib.byteCells (s.take 16)) 0 w (by rw [hlen]; intro j hj; exact (hth j hj).1) (by rw [hlen]; intro j hj; exact (hth j hj).2) (Lib.byteCells_one _)
  have htk : List.take 16 (List.map (fun b : UInt8 => Value.int IntKind.u8 (b.toNat : Int)) s) = Lib.byteCells (s.take 16) := by
    rw [← List.map_take, Lib.byteCells]
  have hsz : (⟨s.toArray⟩ : ByteArray).size = s.length := by simp [ByteArray.size]
  rw [byteCells_nums] at hst htk
  cases hq : P.info? elem with
  | none => simp [hq] at hs
  | some i =>
    have hmin : s.length.min 16 = 16 := Nat.min_eq_right h16
    simp [Builtin.copy_, run_underlying hu, Builtin.lenOf, Builtin.firstCells, sizeOf, typeInfo, hq, hsz, hmin]
    rw [htk, hst]
    simp [Result.andThen]
theorem wpList_copy_elem {P : Program} {w : World} {ops : Array Oper} {rest : List Oper} {o : Oper} {a : Act} {Q : Exit → Act → World → Prop} (hgd : o.guard = none) (d x : Operand) (dT sT : TypeId)
    (ho : o.op = .call { callee := .builtin .copy, args := #[d, x], argTypes := #[dT, sT] }) (elem : TypeId) (hu : P.underlying dT = some (.slice elem)) (hs : (P.info? elem).map (·.size) = some 1)
    (B g n c i off cap : Nat) (e : TypeId) (L : List (List Nat)) (s : List UInt8) (hn : n = L.length) (hoff : off = 16 * i) (hd : a.eval d = .slice (some ⟨g, off, none⟩) 16 cap) (hx : a.eval x = .string ⟨s.toArray⟩)
    (hO : OwnE B e (.slice (some ⟨g, 0, none⟩) n c) L w) (hL : Elems L) (hi : i < n) (h16 : 16 ≤ s.length)
    (h : ∀ w', Hid (OwnE B e (.slice (some ⟨g, 0, none⟩) n c) (L.set i (byteNs (s.take 16))) w') → Hid (But g w w') → wpList P ops Q rest (a.put o.dst (goInt 16)) w') :
    wpList P ops Q (o :: rest) a w := by
  subst hoff
  refine wpList_plain hgd fun K hK => ?_
  have hrun := run_copy_elem (P := P) w dT sT o.type elem B g n c i cap e L s hu hs hn hO hL hi h16
  unfold Oper.wp
  simp [execOp, ho, resolve, invoke, builtin, hd, hx, hrun, Result.andThen]
  refine hK _ _ (h _ (hO.set hn hL hi (by rw [byteNs, List.length_map, List.length_take]; omega) ?_) (But.setCells _ _ _ (But.refl _ _)))
  intro y hy
  obtain ⟨b, _, rfl⟩ := List.mem_map.1 hy
  exact b.toNat_lt
end Go.Proofs.YtpfhlhcnmeodbaaDoor
namespace Go.Proofs.YtpfhlhcnmeodbaaDoor
open Go.RowKit Go.BigFrame
set_option maxHeartbeats 4000000 in
set_option maxRecDepth 100000 in
theorem dev_up (l r : List Nat) (lev idx : Int) (w : World) (hl : l.length = 16) (ll : ∀ y ∈ l, y < 256) (hr : r.length = 16) (lr : ∀ y ∈ r, y < 256)
    (v0 : -9223372036854775808 ≤ lev) (v1 : lev ≤ 9223372036854775807) (x0 : -9223372036854775808 ≤ idx) (x1 : idx ≤ 9223372036854775807) (hk : KAt w) :
    Calls Tryd.prog 108 #[.agg (nums .u8 l).toArray, .agg (nums .u8 r).toArray, .int .i64 lev, .int .i64 idx] w fun e w' => e = .returned (.agg (nums .u8 (upN l r lev idx)).toArray) ∧ Below w.heap.size w w' := by
  have HS := Lib.hid (upN_small hl hr v1 x1)
  have hcl : ¬ 9223372036854775807 < (txt l).length + (txt r).length := by rw [txt_len, txt_len]; omega
  have HL := Lib.hid hl
  have LL := Lib.hid ll
  have HR := Lib.hid hr
  have LR := Lib.hid lr
  have HK := Lib.hid hk
  have hcat := cat2 (txt l) (txt r)
  clear hl ll hr lr hk
  go_enter Tryd.func108, Tryd.ntmps108
  go_upto_region 1 with (fail)
  change Code.wp _ _ _ _ (((w.alloc (.cells (nums .u8 l).toArray 61)).alloc (.cells (nums .u8 r).toArray 61)).alloc (.cells (nums .u8 (List.replicate 16 0)).toArray 61))
  obtain ⟨w1, hw1⟩ : ∃ x', x' = ((w.alloc (.cells (nums .u8 l).toArray 61)).alloc (.cells (nums .u8 r).toArray 61)).alloc (.cells (nums .u8 (List.replicate 16 0)).toArray 61) := ⟨_, rfl⟩
  rw [← hw1]
  have h3 : Blk w.heap.size 61 .u8 l w1 ∧ Blk (w.heap.size + 1) 61 .u8 r w1 ∧ Blk (w.heap.size + 2) 61 .u8 (List.replicate 16 0) w1 ∧ Below w.heap.size w w1 := by rw [hw1]; exact three_new w _ _ _ _ _ _
  obtain ⟨hl1, hr1, hz1, hb1⟩ := h3
  have HL1 := Lib.hid hl1
  have HR1 := Lib.hid hr1
  have HZ1 := Lib.hid hz1
  have HB1 := Lib.hid hb1
  have HK1 := Lib.hid (HK.out.below hb1)
  obtain ⟨gz, hgz⟩ : ∃ g, g = w.heap.size + 2 := ⟨_, rfl⟩
  obtain ⟨gr, hgr⟩ : ∃ g, g = w.heap.size + 1 := ⟨_, rfl⟩
  obtain ⟨gl, hgl⟩ : ∃ g, g = w.heap.size := ⟨_, rfl⟩
  have HGZ := Lib.hid (show w.heap.size ≤ gz by omega)
  rw [← hgz] at HZ1 ⊢
  rw [← hgr] at HR1 ⊢
  rw [← hgl] at HL1 ⊢
  clear hl1 hr1 hz1 hb1 hw1 HK hgz hgr hgl
  refine wp_region_class_tail (fun w' => SS w1 w') 5 (by kernel_rfl) (by kernel_rfl) (SS.start HK1.out) ?_
  simp only [List.take_succ_cons, List.take_zero, List.drop_succ_cons, List.drop_zero]
  repeat (first
    | (go_big_quiet_want; refine quiet_conv_nums 73 9 5 _ rfl gl 16 l 61 (by rw [HL.out]; rfl) LL.out (fun w' h => HL1.out.below h.1) Tryd.underlying73 Tryd.underlying5 Tryd.underlying9 ?_; go_big_quiet_on; simp only [Act.put, List.setIfInBounds_toArray, List.set_cons_zero, List.set_cons_succ])
    | (go_big_quiet_want; refine quiet_conv_nums 73 9 5 _ rfl gr 16 r 61 (by rw [HR.out]; rfl) LR.out (fun w' h => HR1.out.below h.1) Tryd.underlying73 Tryd.underlying5 Tryd.underlying9 ?_; go_big_quiet_on; simp only [Act.put, List.setIfInBounds_toArray, List.set_cons_zero, List.set_cons_succ])
    | go_big_quiet_step ((intro hs'; rfl)))
  refine wpQuiet_nil ?_
  intro w2 hs2
  have HZ2 := Lib.hid (HZ1.out.below hs2.1)
  have HB2 := Lib.hid (HB1.out.trans (hs2.1.mono HB1.out.size))
  have HK2 := Lib.hid hs2.2
  clear hs2 HL1 HR1 HZ1 HB1 HK1
  go_wp2_with fail
  refine (num_int lev _ v0 v1).mono ?_
  rintro e w3 ⟨rfl, hb3⟩
  have HZ3 := Lib.hid (HZ2.out.below hb3)
  have HB3 := Lib.hid (HB2.out.trans (hb3.mono HB2.out.size))
  have HK3 := Lib.hid (HK2.out.below hb3)
  clear hb3 HZ2 HB2 HK2
  go_wp2_with fail
  refine (num_int idx _ x0 x1).mono ?_
  rintro e w4 ⟨rfl, hb4⟩
  have HZ4 := Lib.hid (HZ3.out.below hb4)
  have HB4 := Lib.hid (HB3.out.trans (hb4.mono HB3.out.size))
  have HK4 := Lib.hid (HK3.out.below hb4)
  clear hb4 HZ3 HB3 HK3
  go_wp2_with fail
  refine (dev_sum [110] (some ⟨w4.heap.size, 0, none⟩) 3 [txt l ++ txt r, numB lev.toNat, numB idx.toNat] _ (at_three w4 _ _ _) (fun h => by cases h) (by simp) HS.out (HK4.out.below ((Below.refl _ _).alloc (Nat.le_refl _) _))).mono ?_
  rintro e w5 ⟨rfl, hb5⟩
  have hb : Below w4.heap.size w4 w5 := ((Below.refl _ w4).alloc (Nat.le_refl _) _).trans (hb5.mono (by simp))
  have HZ5 := Lib.hid (HZ4.out.below hb)
  have HB5 := Lib.hid (HB4.out.trans (hb.mono HB4.out.size))
  clear hb hb5 HZ4 HB4 HK4
  go_wp2_with fail
  refine (dev_cut _ w5 (shaN_len _)).mono ?_
  rintro e w6 ⟨rfl, hb6⟩
  have HZ6 := Lib.hid (HZ5.out.below hb6)
  have HB6 := Lib.hid (HB5.out.trans (hb6.mono HB5.out.size))
  clear hb6 HZ5 HB5
  rw [show (shaN (listB [[110], txt l ++ txt r, numB lev.toNat, numB idx.toNat])).take 16 = upN l r lev idx from rfl]
  have HUL0 := upN_len l r lev idx
  obtain ⟨U, hU⟩ : ∃ U, upN l r lev idx = U := ⟨_, rfl⟩
  rw [hU] at HUL0 ⊢
  have HUL := Lib.hid HUL0
  have HUE := Shut.mk hU
  clear hU HUL0
  have HI := Lib.hid (show (Tryd.prog.info? 61).map (·.size) = some U.length by rw [HUL.out]; exact Tryd.infoE)
  have HL2 := Lib.hid (show (List.replicate 16 0).length = U.length by rw [HUL.out]; rfl)
  go_wp2_with (refine wpList_store_nums rfl 61 _ _ rfl rfl gz .u8 _ U 61 rfl rfl HZ6.out HI.out HL2.out ?_)
  intro w7 hc' hb'
  have HC7 := Lib.hid (show Blk gz 61 .u8 U w7 from hc'.out)
  have HB7 := Lib.hid (show Below w.heap.size w w7 from But.toBelow HB6.out hb'.out HGZ.out HB6.out.size)
  clear hc' hb'
  go_wp2_with fail
  exact bodyPost_ret (results_nums rfl _ _ gz .u8 _ 61 _ rfl HC7.out Tryd.underlying61 rfl HI.out) rfl ⟨by rw [HUE.out], HB7.out⟩
set_option maxHeartbeats 4000000 in
set_option maxRecDepth 100000 in
theorem ref_up (l r : List Nat) (lev idx : Int) (w : World) (hl : l.length = 16) (ll : ∀ y ∈ l, y < 256) (hr : r.length = 16) (lr : ∀ y ∈ r, y < 256)
    (v0 : -9223372036854775808 ≤ lev) (v1 : lev ≤ 9223372036854775807) (x0 : -9223372036854775808 ≤ idx) (x1 : idx ≤ 9223372036854775807) :
    Calls Tryd.prog 115 #[.agg (nums .u8 l).toArray, .agg (nums .u8 r).toArray, .int .i64 lev, .int .i64 idx] w fun e w' => e = .returned (.agg (nums .u8 (upN l r lev idx)).toArray) ∧ Below w.heap.size w w' := by
  have HS0 := upN_small hl hr v1 x1
  have hcl : ¬ 9223372036854775807 < (txt l).length + (txt r).length := by rw [txt_len, txt_len]; omega
  have HL := Lib.hid hl
  have LL := Lib.hid ll
  have HR := Lib.hid hr
  have LR := Lib.hid lr
  have hcat := cat2 (txt l) (txt r)
  clear hl ll hr lr
  go_enter Tryd.func115, Tryd.ntmps115
  go_upto_region 1 with (fail)
  change Code.wp _ _ _ _ (((w.alloc (.cells (nums .u8 l).toArray 61)).alloc (.cells (nums .u8 r).toArray 61)).alloc (.cells (nums .u8 (List.replicate 16 0)).toArray 61))
  obtain ⟨w1, hw1⟩ : ∃ x', x' = ((w.alloc (.cells (nums .u8 l).toArray 61)).alloc (.cells (nums .u8 r).toArray 61)).alloc (.cells (nums .u8 (List.replicate 16 0)).toArray 61) := ⟨_, rfl⟩
  rw [← hw1]
  have h3 : Blk w.heap.size 61 .u8 l w1 ∧ Blk (w.heap.size + 1) 61 .u8 r w1 ∧ Blk (w.heap.size + 2) 61 .u8 (List.replicate 16 0) w1 ∧ Below w.heap.size w w1 := by rw [hw1]; exact three_new w _ _ _ _ _ _
  obtain ⟨hl1, hr1, hz1, hb1⟩ := h3
  have HL1 := Lib.hid hl1
  have HR1 := Lib.hid hr1
  have HZ1 := Lib.hid hz1
  have HB1 := Lib.hid hb1
  obtain ⟨gz, hgz⟩ : ∃ g, g = w.heap.size + 2 := ⟨_, rfl⟩
  obtain ⟨gr, hgr⟩ : ∃ g, g = w.heap.size + 1 := ⟨_, rfl⟩
  obtain ⟨gl, hgl⟩ : ∃ g, g = w.heap.size := ⟨_, rfl⟩
  have HGZ := Lib.hid (show w.heap.size ≤ gz by omega)
  rw [← hgz] at HZ1 ⊢
  rw [← hgr] at HR1 ⊢
  rw [← hgl] at HL1 ⊢
  clear hl1 hr1 hz1 hb1 hw1 hgz hgr hgl
  obtain ⟨nv, hnv⟩ : ∃ n : Nat, max lev 0 = n := ⟨lev.toNat, by omega⟩
  obtain ⟨nx, hnx⟩ : ∃ n : Nat, max idx 0 = n := ⟨idx.toNat, by omega⟩
  have hvn : lev.toNat = nv := by omega
  have hxn : idx.toNat = nx := by omega
  have hvn2 : nv < 9223372036854775808 := by omega
  have hxn2 : nx < 9223372036854775808 := by omega
  rw [hvn, hxn] at HS0
  have HS := Lib.hid HS0
  have HU := Shut.mk (show (shaN (listB [[110], txt l ++ txt r, numB nv, numB nx])).take 16 = upN l r lev idx by rw [← hvn, ← hxn]; rfl)
  clear hvn hxn HS0
  refine wp_region_class_tail (fun w' => Below w1.heap.size w1 w') 11 (by kernel_rfl) (by kernel_rfl) (Below.refl _ _).drew ?_
  simp only [List.take_succ_cons, List.take_zero, List.drop_succ_cons, List.drop_zero]
  repeat (first
    | (go_big_quiet_want; refine quiet_conv_nums 73 9 5 _ rfl gl 16 l 61 (by rw [HL.out]; rfl) LL.out (fun w' h => HL1.out.below h) Tryd.underlying73 Tryd.underlying5 Tryd.underlying9 ?_; go_big_quiet_on; simp only [Act.put, List.setIfInBounds_toArray, List.set_cons_zero, List.set_cons_succ])
    | (go_big_quiet_want; refine quiet_conv_nums 73 9 5 _ rfl gr 16 r 61 (by rw [HR.out]; rfl) LR.out (fun w' h => HR1.out.below h) Tryd.underlying73 Tryd.underlying5 Tryd.underlying9 ?_; go_big_quiet_on; simp only [Act.put, List.setIfInBounds_toArray, List.set_cons_zero, List.set_cons_succ])
    | go_big_quiet_step ((intro hs'; first
        | rfl
        | (go_at_call_of 73 (Value.int .i64 (nv : Int)); exact (rnumref_any nv _ hvn2).mono fun e w' h => ⟨h.1, hs'.trans (h.2.mono hs'.size)⟩)
        | (go_at_call_of 73 (Value.int .i64 (nx : Int)); exact (rnumref_any nx _ hxn2).mono fun e w' h => ⟨h.1, hs'.trans (h.2.mono hs'.size)⟩))))
  refine wpQuiet_nil ?_
  intro w2 hs2
  have HZ2 := Lib.hid (HZ1.out.below hs2)
  have HB2 := Lib.hid (HB1.out.trans (hs2.mono HB1.out.size))
  clear hs2 HL1 HR1 HZ1 HB1
  go_wp2_with fail
  refine (ref_sum [110] (some ⟨w2.heap.size, 0, none⟩) 3 [txt l ++ txt r, numB nv, numB nx] _ (at_three w2 _ _ _) (fun h => by cases h) (by simp) HS.out).mono ?_
  rintro e w5 ⟨rfl, hb5⟩
  have hb : Below w2.heap.size w2 w5 := ((Below.refl _ w2).alloc (Nat.le_refl _) _).trans (hb5.mono (by simp))
  have HZ5 := Lib.hid (HZ2.out.below hb)
  have HB5 := Lib.hid (HB2.out.trans (hb.mono HB2.out.size))
  clear hb hb5 HZ2 HB2
  go_wp2_with fail
  refine (ref_cut _ w5 (shaN_len _)).mono ?_
  rintro e w6 ⟨rfl, hb6⟩
  have HZ6 := Lib.hid (HZ5.out.below hb6)
  have HB6 := Lib.hid (HB5.out.trans (hb6.mono HB5.out.size))
  clear hb6 HZ5 HB5
  rw [HU.out]
  have HUL0 := upN_len l r lev idx
  clear HU
  obtain ⟨U, hU⟩ : ∃ U, upN l r lev idx = U := ⟨_, rfl⟩
  rw [hU] at HUL0 ⊢
  have HUL := Lib.hid HUL0
  have HUE := Shut.mk hU
  clear hU HUL0
  have HI := Lib.hid (show (Tryd.prog.info? 61).map (·.size) = some U.length by rw [HUL.out]; exact Tryd.infoE)
  have HL2 := Lib.hid (show (List.replicate 16 0).length = U.length by rw [HUL.out]; rfl)
  go_wp2_with (refine wpList_store_nums rfl 61 _ _ rfl rfl gz .u8 _ U 61 rfl rfl HZ6.out HI.out HL2.out ?_)
  intro w7 hc' hb'
  have HC7 := Lib.hid (show Blk gz 61 .u8 U w7 from hc'.out)
  have HB7 := Lib.hid (show Below w.heap.size w w7 from But.toBelow HB6.out hb'.out HGZ.out HB6.out.size)
  clear hc' hb'
  go_wp2_with fail
  exact bodyPost_ret (results_nums rfl _ _ gz .u8 _ 61 _ rfl HC7.out Tryd.underlying61 rfl HI.out) rfl ⟨by rw [HUE.out], HB7.out⟩
def ones1 (x : Int) : Int := IntKind.u64.wrap (bits .and .u64 (x / 2) 6148914691236517205 + bits .and .u64 x 6148914691236517205)
def ones2 (x : Int) : Int := IntKind.u64.wrap (bits .and .u64 (x / 4) 3689348814741910323 + bits .and .u64 x 3689348814741910323)
def ones3 (x : Int) : Int := bits .and .u64 (IntKind.u64.wrap (x / 16 + x)) 1085102592571150095
def onesA (d : Int) (x : Int) : Int := IntKind.u64.wrap (x + x / d)
def onesN (n : Nat) : Int := bits .and .i64 (wrap64 (onesA 4294967296 (onesA 65536 (onesA 256 (ones3 (ones2 (ones1 n))))))) 127
set_option maxHeartbeats 1000000 in
set_option maxRecDepth 100000 in
theorem ones_64 (n : Nat) (w : World) :
    Calls Tryd.prog 129 #[.int .u64 n] w fun e w' => e = .returned (.int .i64 (onesN n)) ∧ w' = w := by
  go_enter Tryd.func129, Tryd.ntmps129
  go_upto_region 2 with (fail)
  obtain ⟨x1, h1⟩ : ∃ x, x = ones1 n := ⟨_, rfl⟩
  rw [show IntKind.u64.wrap (bits .and .u64 ((n : Int) / 2) 6148914691236517205 + bits .and .u64 (n : Int) 6148914691236517205) = x1 from h1.symm]
  have H1 := Shut.mk h1
  clear h1
  go_upto_region 3 with (fail)
  obtain ⟨x2, h2⟩ : ∃ x, x = ones2 x1 := ⟨_, rfl⟩
  rw [show IntKind.u64.wrap (bits .and .u64 (x1 / 4) 3689348814741910323 + bits .and .u64 x1 3689348814741910323) = x2 from h2.symm]
  have H2 := Shut.mk h2
  clear h2
  go_upto_region 4 with (fail)
  obtain ⟨x3, h3⟩ : ∃ x, x = ones3 x2 := ⟨_, rfl⟩
  rw [show bits .and .u64 (IntKind.u64.wrap (x2 / 16 + x2)) 1085102592571150095 = x3 from h3.symm]
  have H3 := Shut.mk h3
  clear h3
  go_upto_region 5 with (fail)
  obtain ⟨x4, h4⟩ : ∃ x, x = onesA 256 x3 := ⟨_, rfl⟩
  rw [show IntKind.u64.wrap (x3 + x3 / 256) = x4 from h4.symm]
  have H4 := Shut.mk h4
  clear h4
  go_upto_region 6 with (fail)
  obtain ⟨x5, h5⟩ : ∃ x, x = onesA 65536 x4 := ⟨_, rfl⟩
  rw [show IntKind.u64.wrap (x4 + x4 / 65536) = x5 from h5.symm]
  have H5 := Shut.mk h5
  clear h5
  go_upto_region 7 with (fail)
  obtain ⟨x6, h6⟩ : ∃ x, x = onesA 4294967296 x5 := ⟨_, rfl⟩
  rw [show IntKind.u64.wrap (x5 + x5 / 4294967296) = x6 from h6.symm]
  have H6 := Shut.mk h6
  clear h6
  go_wp2_with fail
  go_ret
  exact ⟨by rw [H6.out, H5.out, H4.out, H3.out, H2.out, H1.out]; rfl, rfl⟩
theorem ones_good {n : Nat} (hn : n ≤ 256) : (onesN n == 1) = goodN n := by
  have key : ∀ n : Fin 257, (onesN n.val == 1) = goodN n.val := by decide +kernel
  exact key ⟨n, by omega⟩
theorem dev_ones (n : Nat) (w : World) :
    Calls Tryd.prog 118 #[.int .u64 n] w fun e w' => e = .returned (.int .i64 (onesN n)) ∧ w' = w := by
  go_enter Tryd.func118, Tryd.ntmps118
  go_wp2_with fail
  refine (ones_64 n w).mono ?_
  rintro e w1 ⟨rfl, rfl⟩
  obtain ⟨q, hq⟩ : ∃ q, onesN n = q := ⟨_, rfl⟩
  rw [hq]
  have HQ := Shut.mk hq
  clear hq
  go_wp2_with fail
  go_ret
  exact ⟨by rw [HQ.out]; rfl, rfl⟩
theorem dev_permitted (n : Nat) (w : World) (hn : n ≤ 9000000000000) :
    Calls Tryd.prog 85 #[.int .i64 n] w fun e w' => e = .returned (.bool (goodN n)) ∧ w' = w := by
  go_enter Tryd.func85, Tryd.ntmps85
  by_cases h : n ≤ 256
  · have h2 : (n : Int) ≤ 256 := by omega
    have hg := Shut.mk (ones_good h)
    go_wp2_with fail
    refine (dev_ones n w).mono ?_
    rintro e w1 ⟨rfl, rfl⟩
    generalize onesN n = q at *
    go_wp2_with fail
    go_ret
    exact ⟨by rw [← hg.out]; rfl, rfl⟩
  · have h2 : ¬ (n : Int) ≤ 256 := by omega
    have hg : goodN n = false := by
      cases hc : goodN n with
      | false => rfl
      | true => exact absurd (goodN_le hc) h
    go_wp2_with fail
    go_ret
    exact ⟨rfl, rfl⟩
theorem tdiv_two {a : Int} (h : a < 0) : a.tdiv 2 = -((-a) / 2) ∧ a.tmod 2 = -((-a) % 2) := by
  obtain ⟨b, rfl⟩ : ∃ b, a = -b := ⟨-a, by omega⟩
  rw [Int.neg_tdiv, Int.neg_tmod, Int.neg_neg, Int.tdiv_eq_ediv_of_nonneg (by omega), Int.tmod_eq_emod_of_nonneg (by omega)]
  exact ⟨rfl, rfl⟩
theorem half_bounds {a : Int} (h0 : -9223372036854775808 ≤ a) (h1 : a ≤ 9223372036854775807) (k : Nat) : -9223372036854775808 ≤ a / 2 ^ k ∧ a / 2 ^ k ≤ 9223372036854775807 := by
  induction k with
  | zero => simp; omega
  | succ k ih =>
    rw [← half_next]
    omega
theorem tmod_ne (c : Int) : (c.tmod 2 != 0) = !decide (c % 2 = 0) := by
  by_cases hn : c < 0
  · obtain ⟨_, h3⟩ := tdiv_two hn
    rw [h3, Bool.eq_iff_iff]
    simp
  · rw [Int.tmod_eq_emod_of_nonneg (by omega), Bool.eq_iff_iff]
    simp
theorem climbN_next (x : List Nat) (a : Int) (p : List (List Nat)) (j : Nat) : climbN x a p (j + 1) = stepN (climbN x a p j) (p.getD j []) (a / 2 ^ j) j := rfl
theorem bit_one (c : Int) : bits .and .i64 c 1 = c % 2 := by
  have h := and_one_i64 c
  show IntKind.i64.wrap ((BitVec.ofInt 64 c &&& BitVec.ofInt 64 1).toNat : Int) = c % 2
  rw [h]
  rcases (by omega : c % 2 = 0 ∨ c % 2 = 1) with h | h <;> rw [h] <;> rfl
end Go.Proofs.YtpfhlhcnmeodbaaDoor
