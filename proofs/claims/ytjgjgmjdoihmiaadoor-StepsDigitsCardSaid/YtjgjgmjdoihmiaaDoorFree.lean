/-
  The law of a region whose order is open, by an invariant, in the form in which it is used: the values that the operations leave are a function of their numbers.
-/
import Derived.Test.YtjgjgmjdoihmiaaDoorAnyInv
import Derived.Test.YtjgjgmjdoihmiaaDoorArr
namespace Go.Proofs.YtjgjgmjdoihmiaaDoor
open Go.RowKit
section
variable {P : Program}

/-- The frame behind operations that left these values. -/
def putAll : List Oper → (Nat → Value) → Act → Act
  | [], _, a => a
  | o :: l, V, a => putAll l (fun i => V (i + 1)) (a.put o.dst (V 0))
def apartB : List Oper → Bool
  | [] => true
  | o :: l => l.all (fun p => !(o.dst == p.dst)) && apartB l
def upd (V : Nat → Value) (i : Nat) (v : Value) : Nat → Value := fun j => if j = i then v else V j
theorem upd_same (V : Nat → Value) (i : Nat) (v : Value) : upd V i v i = v := by simp [upd]
theorem upd_ne (V : Nat → Value) {i j : Nat} (v : Value) (h : j ≠ i) : upd V i v j = V j := by simp [upd, h]
theorem put_put (a : Act) (d : Option Tmp) (u v : Value) : (a.put d u).put d v = a.put d v := by
  cases d with
  | none => rfl
  | some d => simp [Act.put]
theorem putAll_put (l : List Oper) (o : Oper) (v : Value) (h : l.all (fun p => !(o.dst == p.dst)) = true) : ∀ (V : Nat → Value) (a : Act), putAll l V (a.put o.dst v) = (putAll l V a).put o.dst v := by
  induction l with
  | nil => intro V a; rfl
  | cons p l ih =>
    intro V a
    simp only [List.all_cons, Bool.and_eq_true] at h
    rw [putAll, putAll, Act.put_comm a v (V 0) (fun d hd e => by rw [hd, e] at h; simp at h), ih h.2]
theorem putAll_upd (l : List Oper) (h : apartB l = true) : ∀ (i : Nat) (o : Oper) (v : Value) (V : Nat → Value) (a : Act), l[i]? = some o → putAll l (upd V i v) a = (putAll l V a).put o.dst v := by
  induction l with
  | nil => intro i o v V a ho; simp at ho
  | cons p l ih =>
    intro i o v V a ho
    simp only [apartB, Bool.and_eq_true] at h
    cases i with
    | zero =>
      obtain rfl : p = o := by simpa using ho
      rw [putAll, putAll, ← putAll_put l p v h.1, put_put]
      rfl
    | succ i =>
      rw [putAll, putAll, ← ih h.2 i o v (fun j => V (j + 1)) _ (by simpa using ho)]
      congr 1
      funext j
      simp [upd]

/-- One operation's wp, shut (Lean's elaborator would run it when it looks whether it is a 'for all'). -/
structure OpWp (P : Program) (o : Oper) (a : Act) (w : World) (K : Act → World → Prop) (Q : Exit → Act → World → Prop) : Prop where
  out : Oper.wp P o a w K Q
/-- Operation number i keeps the invariant, whenever it may come up. -/
structure FreeStep (P : Program) (ops : Array Oper) (Q : Exit → Act → World → Prop) (F : (Nat → Value) → Act) (Inv : (Nat → Bool) → (Nat → Value) → World → Prop) (o : Oper) (i : Nat) : Prop where
  go : ∀ s V w, (∀ e ∈ o.after, Region.binds .any e = true → s e.on = true) → Inv s V w →
    ∀ K : Act → World → Prop, (∀ v w', Inv (fun j => s j || j == i) (upd V i v) w' → K ((F V).put o.dst v) w') →
      if Region.wanted o (yielded ops (F V).tmps) = true then Oper.wp P o (F V) w K Q else K ((F V).put o.dst undef) w
def FreeSteps (P : Program) (ops : Array Oper) (Q : Exit → Act → World → Prop) (F : (Nat → Value) → Act) (Inv : (Nat → Bool) → (Nat → Value) → World → Prop) : List Oper → Nat → Prop
  | [], _ => True
  | o :: l, i => FreeStep P ops Q F Inv o i ∧ FreeSteps P ops Q F Inv l (i + 1)
theorem FreeSteps.nil {ops : Array Oper} {Q : Exit → Act → World → Prop} {F : (Nat → Value) → Act} {Inv : (Nat → Bool) → (Nat → Value) → World → Prop} {i : Nat} : FreeSteps P ops Q F Inv [] i := trivial
theorem FreeSteps.cons {ops : Array Oper} {Q : Exit → Act → World → Prop} {F : (Nat → Value) → Act} {Inv : (Nat → Bool) → (Nat → Value) → World → Prop} {o : Oper} {l : List Oper} {i : Nat} (h : FreeStep P ops Q F Inv o i) (hs : FreeSteps P ops Q F Inv l (i + 1)) : FreeSteps P ops Q F Inv (o :: l) i := ⟨h, hs⟩
/-- An operation without a guard. -/
theorem FreeStep.plain {ops : Array Oper} {Q : Exit → Act → World → Prop} {F : (Nat → Value) → Act} {Inv : (Nat → Bool) → (Nat → Value) → World → Prop} {o : Oper} {i : Nat} (hg : o.guard = none)
    (h : ∀ s V w, (∀ e ∈ o.after, Region.binds .any e = true → s e.on = true) → Inv s V w → ∀ K : Act → World → Prop, (∀ v w', Inv (fun j => s j || j == i) (upd V i v) w' → K ((F V).put o.dst v) w') → OpWp P o (F V) w K Q) : FreeStep P ops Q F Inv o i := ⟨fun s V w hr hI K hK => by
  have hw : Region.wanted o (yielded ops (F V).tmps) = true := by simp [Region.wanted, hg]
  rw [if_pos hw]
  exact (h s V w hr hI K hK).out⟩
theorem FreeSteps.get {ops : Array Oper} {Q : Exit → Act → World → Prop} {F : (Nat → Value) → Act} {Inv : (Nat → Bool) → (Nat → Value) → World → Prop} (l : List Oper) : ∀ (i k : Nat) (o : Oper), FreeSteps P ops Q F Inv l k → l[i]? = some o → FreeStep P ops Q F Inv o (k + i) := by
  induction l with
  | nil => intro i k o _ ho; simp at ho
  | cons p l ih =>
    intro i k o h ho
    cases i with
    | zero =>
      obtain rfl : p = o := by simpa using ho
      exact h.1
    | succ i =>
      have := ih i (k + 1) o h.2 (by simpa using ho)
      rwa [show k + 1 + i = k + (i + 1) by omega] at this

theorem wp_region_free {id : Nat} {Q : Exit → Act → World → Prop} {a : Act} {w : World} {l : List Oper} (n : Nat) (Inv : (Nat → Bool) → (Nat → Value) → World → Prop) (V0 : Nat → Value) (hm : P.follows .mixedOrders = true) (hB : Region.lexTailB .any l.toArray n = true) (hd : apartB (l.take n) = true)
    (ha : putAll (l.take n) V0 a = a) (h0 : Inv (fun _ => false) V0 w.drew)
    (hstep : FreeSteps P l.toArray Q (fun V => putAll (l.take n) V a) Inv (l.take n) 0)
    (hend : ∀ s V w, (∀ i, i < n → s i = true) → Inv s V w → wpList P l.toArray Q (l.drop n) (putAll (l.take n) V a) w) : (Code.region id l.toArray true).wp P Q a w := by
  have hn : n < l.length := by
    simp only [Region.lexTailB, Bool.and_eq_true, decide_eq_true_eq] at hB
    simpa using hB.1.1.1.2
  refine wp_region_inv n (fun seen a' w' => ∃ V, a' = putAll (l.take n) V a ∧ Inv (fun j => seen.getD j false) V w') hm hB ⟨V0, ha.symm, ?_⟩ ?_ ?_
  · rw [show (fun j => (Array.replicate l.toArray.size false).getD j false) = fun _ => false from funext fun j => getD_replicate_false _ _]
    exact h0
  · rintro seen a' w' i hi hr hs ⟨V, rfl, hI⟩
    obtain ⟨_, o, ho, hall⟩ := mem_ready.1 hr
    have ho' : (l.take n)[i]? = some o := by
      rw [List.getElem?_take, if_pos hi]
      simpa using ho
    have hF := FreeSteps.get (l.take n) i 0 o hstep ho'
    rw [Nat.zero_add] at hF
    have e : (fun j => (seen.setIfInBounds i true).getD j false) = fun j => seen.getD j false || j == i := funext fun j => by
      by_cases hj : i = j
      · subst hj; simp [hs]
      · rw [getD_set_ne false hj]
        have : (j == i) = false := by simp; omega
        rw [this, Bool.or_false]
    have hF2 := hF.go _ V w' hall hI (fun a'' w'' => ∃ V, a'' = putAll (l.take n) V a ∧ Inv (fun j => (seen.setIfInBounds i true).getD j false) V w'') (fun v w'' h => ⟨upd V i v, (putAll_upd _ hd i o v V a ho').symm, by rw [e]; exact h⟩)
    unfold wpOp
    simp only [ho]
    split
    · rename_i hw
      rw [if_pos hw] at hF2
      exact .inl hF2
    · rename_i hw
      rw [if_neg hw] at hF2
      exact hF2
  · rintro seen a' w' hall ⟨V, rfl, hI⟩
    exact hend _ V w' (fun i hi => hall i hi) hI

/-- A guarded load whose guard says yes. -/
theorem wpList_load_want {w : World} {ops : Array Oper} {rest : List Oper} {o : Oper} {a : Act} {Q : Exit → Act → World → Prop} (hw : Region.wanted o (yielded ops a.tmps) = true) (ty : TypeId) (x : Operand) (ho : o.op = .load ty x)
    (g : Nat) (k : IntKind) (l : List Nat) (t : TypeId) (d : TypeDesc) (hx : a.eval x = .pointer (some ⟨g, 0, none⟩)) (hg : Blk g t k l w)
    (hu : P.underlying ty = some d) (hd : (match d with | .struct _ | .array _ _ => true | _ => false) = true) (hi : (P.info? ty).map (·.size) = some l.length)
    (h : wpList P ops Q rest (a.put o.dst (.agg (nums k l).toArray)) w) : wpList P ops Q (o :: rest) a w :=
  BigFrame.wpList_want hw fun _ hK => wp_load_row ty x ho g hx t _ _ d hg hu hd (by rw [nums_size]; exact hi) (hK _ _ h)
/-- A load of an array of numbers. -/
theorem op_load_nums {o : Oper} {a : Act} {w : World} {K : Act → World → Prop} {Q : Exit → Act → World → Prop} (ty : TypeId) (x : Operand) (ho : o.op = .load ty x) (b : Nat) (k : IntKind) (l : List Nat) (t : TypeId) (d : TypeDesc)
    (hx : a.eval x = .pointer (some ⟨b, 0, none⟩)) (hb : Blk b t k l w) (hu : P.underlying ty = some d) (hd : (match d with | .struct _ | .array _ _ => true | _ => false) = true) (hi : (P.info? ty).map (·.size) = some l.length)
    (h : K (a.put o.dst (.agg (nums k l).toArray)) w) : OpWp P o a w K Q := by
  refine ⟨?_⟩
  unfold Oper.wp execOp
  simp only [ho, hx, Instr.loadAt, Instr.sureAddr, Sem.run_bind, Sem.run_pure, Result.andThen_ok, run_loadVar_row w b t ty _ (0, 0) d hb hu hd (by rw [nums_size]; exact hi)]
  exact h
/-- A call of a function of the program. -/
theorem op_call {o : Oper} {a : Act} {w : World} {K : Act → World → Prop} {Q : Exit → Act → World → Prop} {f : FuncId} {fn : Func} (hf : P.funcs[f]? = some fn) (hname : (fn.name == "runtime.NumGoroutine") = false) (hb : fn.body.isNone = false)
    {args : Array Operand} {ts : Array TypeId} (ho : o.op = .call { callee := .value (.func f), args := args, argTypes := ts }) (vs : List Value) (hv : args.toList.map a.eval = vs) {C : Ending → World → Prop}
    (hc : Calls P f vs.toArray w C) (h : ∀ e w', C e w' → ∃ v, e = .returned v ∧ K (a.put o.dst v) w') : OpWp P o a w K Q := by
  have hr : (execOp a.eval o).run P w = .ok (.enter f vs.toArray) w := by
    obtain ⟨dst, op, ty, pos, after, guard⟩ := o
    simp only at ho
    subst ho
    rw [execOp_call_go, show args.map a.eval = vs.toArray by rw [← hv, ← Array.toList_map, Array.toArray_toList], Array.append_empty, Array.empty_append]
    have h1 : ¬ fn.name = "runtime.NumGoroutine" := by simpa using hname
    have h2 : ¬ fn.body = none := by intro e; rw [e] at hb; cases hb
    simp [callFunc, Sem.run_bind, hf, h1, h2, go_sem]
  refine ⟨?_⟩
  unfold Oper.wp
  rw [hr, Oper.upon_enter]
  refine hc.mono fun e w' he => ?_
  obtain ⟨v, rfl, hk⟩ := h e w' he
  exact hk
/-- New memory. -/
theorem op_alloc {o : Oper} {a : Act} {w : World} {K : Act → World → Prop} {Q : Exit → Act → World → Prop} (ty : TypeId) (ho : o.op = .alloc ty) (z : Array Value) (hz : ∀ w, (Instr.alloc ty true (.tuple #[])).run P w = .ok (.pointer (some ⟨w.heap.size, 0, none⟩)) (w.alloc (.cells z ty)))
    (h : K (a.put o.dst (.pointer (some ⟨w.heap.size, 0, none⟩))) (w.alloc (.cells z ty))) : OpWp P o a w K Q := by
  refine ⟨?_⟩
  unfold Oper.wp execOp
  simp only [ho, Sem.run_bind, Sem.run_pure, Result.andThen_ok, hz]
  exact h

/-- A block that holds these values (a struct's fields, an array's elements). -/
def Cells (b : Nat) (t : TypeId) (cs : Array Value) (w : World) : Prop := w.heap[b]? = some (.cells cs t (0, 0))
theorem Cells.lt {b : Nat} {t : TypeId} {cs : Array Value} {w : World} (h : Cells b t cs w) : b < w.heap.size := lt_of_block h
theorem Cells.below {b : Nat} {t : TypeId} {cs : Array Value} {w w' : World} (h : Cells b t cs w) (hb : Below w.heap.size w w') : Cells b t cs w' := (hb.block b h.lt).trans h
theorem Cells.but {b g : Nat} {t : TypeId} {cs : Array Value} {w w' : World} (h : Cells b t cs w) (hb : But g w w') (hne : b ≠ g) : Cells b t cs w' := (hb.block b h.lt hne).trans h
theorem Cells.alloc {b : Nat} {t : TypeId} {cs : Array Value} {w : World} (h : Cells b t cs w) (o : Obj) : Cells b t cs (w.alloc o) := (heap_alloc_old w o h.lt).trans h
/-- A struct is read, in a region whose order is open. -/
theorem quiet_load_cells {o : Oper} {a : Act} {C : World → Prop} {K : Act → Prop} (ty : TypeId) (x : Operand) (ho : o.op = .load ty x) (b : Nat) (cs : Array Value) (t : TypeId) (d : TypeDesc)
    (hx : a.eval x = .pointer (some ⟨b, 0, none⟩)) (hC : ∀ w, C w → Cells b t cs w) (hu : P.underlying ty = some d) (hd : (match d with | .struct _ | .array _ _ => true | _ => false) = true) (hi : (P.info? ty).map (·.size) = some cs.size)
    (hk : K (a.put o.dst (.agg cs))) : o.quiet P a C K := by
  refine ⟨_, fun w hw => ?_, hk⟩
  unfold Oper.quietAt execOp
  simp only [ho, hx, Instr.loadAt, Instr.sureAddr, Sem.run_bind, Sem.run_pure, Result.andThen_ok, run_loadVar_row w b t ty _ (0, 0) d (hC w hw) hu hd hi]
  exact ⟨rfl, rfl⟩
theorem wpList_load_cells {w : World} {ops : Array Oper} {rest : List Oper} {o : Oper} {a : Act} {Q : Exit → Act → World → Prop} (hgd : o.guard = none) (ty : TypeId) (x : Operand) (ho : o.op = .load ty x)
    (g : Nat) (cs : Array Value) (t : TypeId) (d : TypeDesc) (hx : a.eval x = .pointer (some ⟨g, 0, none⟩)) (hg : Cells g t cs w)
    (hu : P.underlying ty = some d) (hd : (match d with | .struct _ | .array _ _ => true | _ => false) = true) (hi : (P.info? ty).map (·.size) = some cs.size)
    (h : wpList P ops Q rest (a.put o.dst (.agg cs)) w) : wpList P ops Q (o :: rest) a w :=
  wpList_load_row hgd ty x ho g hx t _ _ d hg hu hd hi h
theorem wpList_store_cells {w : World} {ops : Array Oper} {rest : List Oper} {o : Oper} {a : Act} {Q : Exit → Act → World → Prop} (hgd : o.guard = none) (ty : TypeId) (x y : Operand) (ho : o.op = .store ty x y)
    (hd : o.dst = none) (g : Nat) (cs cs' : Array Value) (t : TypeId) (hx : a.eval x = .pointer (some ⟨g, 0, none⟩)) (hy : a.eval y = .agg cs')
    (hg : Cells g t cs w) (hi : (P.info? ty).map (·.size) = some cs'.size) (hl : cs.size = cs'.size) (h1 : cs'.all (·.oneCell') = true)
    (h : ∀ w', Hid (Cells g t cs' w') → Hid (But g w w') → wpList P ops Q rest a w') : wpList P ops Q (o :: rest) a w :=
  wpList_store_rowTo hgd ty x y ho hd g cs' hx hy t _ hg hi hl h1 (h _ (setRow_heap _ _ _ _ _ _ hg) ((But.refl g w).setRow _))

/-! What an invariant is made of: number i has left v; number i has made a block of its own. -/
def Val (s : Nat → Bool) (V : Nat → Value) (i : Nat) (v : Value) : Prop := s i = true → V i = v
def New (s : Nat → Bool) (V : Nat → Value) (B i : Nat) (t : TypeId) (k : IntKind) (l : List Nat) (w : World) : Prop := s i = true → ∃ g, V i = .pointer (some ⟨g, 0, none⟩) ∧ B ≤ g ∧ Blk g t k l w
def Two (s : Nat → Bool) (V : Nat → Value) (i j : Nat) : Prop := s i = true → s j = true → V i ≠ V j
theorem Val.none {V : Nat → Value} {i : Nat} {v : Value} : Val (fun _ => false) V i v := fun h => by cases h
theorem New.none {V : Nat → Value} {B i : Nat} {t : TypeId} {k : IntKind} {l : List Nat} {w : World} : New (fun _ => false) V B i t k l w := fun h => by cases h
theorem Two.none {V : Nat → Value} {i j : Nat} : Two (fun _ => false) V i j := fun h => by cases h
theorem seen_ne {s : Nat → Bool} {i j : Nat} (hne : j ≠ i) (h : (s j || j == i) = true) : s j = true := by
  have : (j == i) = false := by simpa using hne
  rwa [this, Bool.or_false] at h
theorem Val.same {s : Nat → Bool} {V : Nat → Value} {i : Nat} {v : Value} : Val (fun j => s j || j == i) (upd V i v) i v := fun _ => upd_same _ _ _
theorem Val.ne {s : Nat → Bool} {V : Nat → Value} {i j : Nat} {v u : Value} (h : Val s V j v) (hne : j ≠ i) : Val (fun j => s j || j == i) (upd V i u) j v := fun hs => by
  rw [upd_ne V u hne]
  exact h (seen_ne hne hs)
theorem New.ne {s : Nat → Bool} {V : Nat → Value} {B i j : Nat} {t : TypeId} {k : IntKind} {l : List Nat} {w w' : World} {u : Value} (h : New s V B j t k l w) (hne : j ≠ i) (hb : Below w.heap.size w w') : New (fun j => s j || j == i) (upd V i u) B j t k l w' := fun hs => by
  obtain ⟨g, e, hg, hk⟩ := h (seen_ne hne hs)
  exact ⟨g, by rw [upd_ne V u hne]; exact e, hg, hk.below hb⟩
theorem New.same {s : Nat → Bool} {V : Nat → Value} {B i : Nat} {t : TypeId} {k : IntKind} {l : List Nat} {w : World} (hB : B ≤ w.heap.size) : New (fun j => s j || j == i) (upd V i (.pointer (some ⟨w.heap.size, 0, Option.none⟩))) B i t k l (w.alloc (.cells (nums k l).toArray t)) :=
  fun _ => ⟨w.heap.size, upd_same _ _ _, hB, heap_alloc_new w _⟩
theorem Two.ne {s : Nat → Bool} {V : Nat → Value} {i j m : Nat} {u : Value} (h : Two s V i j) (hi : i ≠ m) (hj : j ≠ m) : Two (fun j => s j || j == m) (upd V m u) i j := fun h1 h2 => by
  rw [upd_ne V u hi, upd_ne V u hj]
  exact h (seen_ne hi h1) (seen_ne hj h2)
theorem Two.left {s : Nat → Bool} {V : Nat → Value} {B i j : Nat} {t : TypeId} {k : IntKind} {l : List Nat} {w : World} (h : New s V B j t k l w) (hne : j ≠ i) : Two (fun j => s j || j == i) (upd V i (.pointer (some ⟨w.heap.size, 0, Option.none⟩))) i j := fun _ h2 => by
  obtain ⟨g, e, _, hk⟩ := h (seen_ne hne h2)
  rw [upd_same, upd_ne V _ hne, e]
  intro h3
  have := hk.lt
  simp only [Value.pointer.injEq, Option.some.injEq, Addr.mk.injEq] at h3
  omega
theorem Two.right {s : Nat → Bool} {V : Nat → Value} {B i j : Nat} {t : TypeId} {k : IntKind} {l : List Nat} {w : World} (h : New s V B i t k l w) (hne : i ≠ j) : Two (fun m => s m || m == j) (upd V j (.pointer (some ⟨w.heap.size, 0, Option.none⟩))) i j := fun h1 _ => by
  obtain ⟨g, e, _, hk⟩ := h (seen_ne hne h1)
  rw [upd_same, upd_ne V _ hne, e]
  intro h3
  have := hk.lt
  simp only [Value.pointer.injEq, Option.some.injEq, Addr.mk.injEq] at h3
  omega

/-- Number i has answered a row of numbers in new memory. -/
def Row (s : Nat → Bool) (V : Nat → Value) (B i n : Nat) (e : TypeId) (k : IntKind) (l : List Nat) (w : World) : Prop := s i = true → ∃ ao c, V i = .slice ao n c ∧ OwnN B e k (.slice ao n c) l w
theorem Row.none {V : Nat → Value} {B i n : Nat} {e : TypeId} {k : IntKind} {l : List Nat} {w : World} : Row (fun _ => false) V B i n e k l w := fun h => by cases h
theorem Row.ne {s : Nat → Bool} {V : Nat → Value} {B i j n : Nat} {t : TypeId} {k : IntKind} {l : List Nat} {w w' : World} {u : Value} (h : Row s V B j n t k l w) (hne : j ≠ i) (hb : Below w.heap.size w w') : Row (fun j => s j || j == i) (upd V i u) B j n t k l w' := fun hs => by
  obtain ⟨ao, c, e, hk⟩ := h (seen_ne hne hs)
  exact ⟨ao, c, by rw [upd_ne V u hne]; exact e, hk.below hb⟩
theorem Row.same {s : Nat → Bool} {V : Nat → Value} {B i n : Nat} {t : TypeId} {k : IntKind} {l : List Nat} {w : World} {ao : Option Addr} {c : Nat} (h : OwnN B t k (.slice ao n c) l w) : Row (fun j => s j || j == i) (upd V i (.slice ao n c)) B i n t k l w :=
  fun _ => ⟨ao, c, upd_same _ _ _, h⟩
/-- The row of number i lies in another block than what number j points to. -/
def Far (s : Nat → Bool) (V : Nat → Value) (i j : Nat) : Prop := s i = true → s j = true → ∀ g, (V i).ownBlock = some g → V j ≠ .pointer (some ⟨g, 0, Option.none⟩)
theorem Far.none {V : Nat → Value} {i j : Nat} : Far (fun _ => false) V i j := fun h => by cases h
theorem Far.ne {s : Nat → Bool} {V : Nat → Value} {i j m : Nat} {u : Value} (h : Far s V i j) (hi : i ≠ m) (hj : j ≠ m) : Far (fun j => s j || j == m) (upd V m u) i j := fun h1 h2 => by
  rw [upd_ne V u hi, upd_ne V u hj]
  exact h (seen_ne hi h1) (seen_ne hj h2)
theorem Far.left {s : Nat → Bool} {V : Nat → Value} {B i j : Nat} {t : TypeId} {k : IntKind} {l : List Nat} {w w' : World} {v : Value} {e : TypeId} {k' : IntKind} {l' : List Nat} (h : New s V B j t k l w) (hne : j ≠ i) (ho : OwnN w.heap.size e k' v l' w') : Far (fun j => s j || j == i) (upd V i v) i j := fun _ h2 g hg => by
  obtain ⟨b, hv, _, hk⟩ := h (seen_ne hne h2)
  rw [upd_same] at hg
  rw [upd_ne V _ hne, hv]
  intro h3
  have h4 := (World.ownsRow.lt ho g hg).1
  have := hk.lt
  simp only [Value.pointer.injEq, Option.some.injEq, Addr.mk.injEq] at h3
  omega
theorem Far.right {s : Nat → Bool} {V : Nat → Value} {B i j n : Nat} {t : TypeId} {k : IntKind} {l : List Nat} {w : World} (h : Row s V B i n t k l w) (hne : i ≠ j) : Far (fun m => s m || m == j) (upd V j (.pointer (some ⟨w.heap.size, 0, Option.none⟩))) i j := fun h1 _ g hg => by
  obtain ⟨ao, c, hv, ho⟩ := h (seen_ne hne h1)
  rw [upd_ne V _ hne, hv] at hg
  rw [upd_same]
  intro h3
  have h4 := (World.ownsRow.lt ho g hg).2
  simp only [Value.pointer.injEq, Option.some.injEq, Addr.mk.injEq] at h3
  omega
end
end Go.Proofs.YtjgjgmjdoihmiaaDoor
