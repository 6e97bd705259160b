/-
  Operations of a region whose order is open, one by one (for the steps of wp_region_free): fields, loads, conversions, literal slices of one value, values pushed.
-/
import Derived.Test.YthgfpojfnhkckaaDoorOnly
import Derived.Laws.DeepStrings4
namespace Go.Proofs.YthgfpojfnhkckaaDoor
open Go.RowKit
section
variable {P : Program} {o : Oper} {a : Act} {w : World} {K : Act → World → Prop} {Q : Exit → Act → World → Prop}

/-- A nil check of a pointer that is none. -/
theorem op_nilCheck (x : Operand) (ho : o.op = .nilCheck x) (p : Addr) (hx : a.eval x = .pointer (some p)) (h : K (a.put o.dst (.pointer (some p))) w) : OpWp P o a w K Q := by
  refine ⟨?_⟩
  unfold Oper.wp execOp
  simp only [ho, hx, Sem.run_pure]
  exact h
/-- A field's address. -/
theorem op_fieldAt (ty : TypeId) (x : Operand) (k : Nat) (ho : o.op = .fieldAddr ty x k) (p q : Addr) (hx : a.eval x = .pointer (some p)) (hr : ∀ w, (Instr.fieldAt ty (.pointer (some p)) k).run P w = .ok (.pointer (some q)) w)
    (h : K (a.put o.dst (.pointer (some q))) w) : OpWp P o a w K Q := by
  refine ⟨?_⟩
  unfold Oper.wp execOp
  simp only [ho, hx, Sem.run_bind, Sem.run_pure, hr, Result.andThen_ok]
  exact h
/-- A cell of one value is read. -/
theorem op_load_cell (ty : TypeId) (x : Operand) (ho : o.op = .load ty x) (p : Addr) (v : Value) (hx : a.eval x = .pointer (some p)) (hc : w.cell? p = some v) (hi : ∀ w, (isAgg ty).run P w = .ok false w) (h : K (a.put o.dst v) w) : OpWp P o a w K Q := by
  refine ⟨?_⟩
  unfold Oper.wp execOp
  simp only [ho, hx, Instr.loadAt, Instr.sureAddr, Sem.run_bind, Sem.run_pure, Result.andThen_ok, run_loadVar_cell w ty p v hc hi]
  exact h
/-- An element's address. -/
theorem op_indexAt (ty : TypeId) (x y : Operand) (ho : o.op = .indexAddr ty x y) (vx vy : Value) (q : Addr) (hx : a.eval x = vx) (hy : a.eval y = vy) (hr : ∀ w, (Instr.indexAt ty vx vy).run P w = .ok (.pointer (some q)) w)
    (h : K (a.put o.dst (.pointer (some q))) w) : OpWp P o a w K Q := by
  refine ⟨?_⟩
  unfold Oper.wp execOp
  simp only [ho, hx, hy, Sem.run_bind, Sem.run_pure, hr, Result.andThen_ok]
  exact h
/-- A struct out of its parts. -/
theorem op_build (t : TypeId) (parts : Array (Nat × Operand)) (ho : o.op = .build t parts) (vs : List (Nat × Value)) (cells : Array Value) (hv : (parts.map fun (i, x) => (i, a.eval x)) = vs.toArray)
    (hc : ∀ w, (Instr.build t vs.toArray).run P w = .ok (.agg cells) w) (h : K (a.put o.dst (.agg cells)) w) : OpWp P o a w K Q := by
  refine ⟨?_⟩
  unfold Oper.wp execOp
  simp only [ho, hv, Sem.run_bind, Sem.run_pure, hc, Result.andThen_ok]
  exact h
/-- A conversion that leaves the world. -/
theorem op_conv (t u : TypeId) (x : Operand) (ho : o.op = .convert t u x) (v r : Value) (hx : a.eval x = v) (hC : (convert t u v).run P w = .ok r w) (h : K (a.put o.dst r) w) : OpWp P o a w K Q := by
  refine ⟨?_⟩
  unfold Oper.wp execOp
  simp only [ho, hx, Sem.run_bind, hC, Result.andThen_ok, Sem.run_pure]
  exact h
/-- A literal slice of one value. -/
theorem op_build1 (t e : TypeId) (x : Operand) (ho : o.op = .buildSlice t 1 #[(0, x)]) (u : Value) (hx : a.eval x = u)
    (hr : ∀ w, (Instr.buildSlice t 1 #[(0, u)]).run P w = .ok (.slice (some ⟨w.heap.size, 0, none⟩) 1 1) (w.alloc (.cells #[u] e)))
    (h : K (a.put o.dst (.slice (some ⟨w.heap.size, 0, none⟩) 1 1)) (w.alloc (.cells #[u] e))) : OpWp P o a w K Q := by
  refine ⟨?_⟩
  have e1 : ((#[(0, x)] : Array (Nat × Operand)).map fun (i, x) => (i, a.eval x)) = #[(0, u)] := by simp [hx]
  unfold Oper.wp execOp
  simp only [ho, e1, Sem.run_bind, Sem.run_pure, hr, Result.andThen_ok]
  exact h
/-- One value pushed onto a row. -/
theorem op_push (s x : Operand) (t e : TypeId) (ho : o.op = .call { callee := .builtin .append, args := #[s, x], argTypes := #[t, t] })
    (z : Value) (bytes : Nat) (hzs : z.cells.size = 1) (hby : bytes ≤ 1024) (ht : P.underlying t = some (.slice e)) (hinfo : (P.info? e).map (fun i => (i.zero, i.size, i.bytes)) = some (some z, 1, bytes))
    (v : Value) (S : List Value) (u : Value) (hu : u.oneCell' = true) (ad : Addr) (c : Nat) (hs : a.eval s = v) (hown : RowV e v S w) (hx : a.eval x = .slice (some ad) 1 c) (hnews : w.cell? (ad.add 0) = some u)
    (h63 : S.length ≤ 1000000)
    (h : ∀ v' w', RowV e v' (S ++ [u]) w' → w.grownBy w' v.ownBlock → (v'.ownBlock = v.ownBlock ∨ v'.ownBlock = some w.heap.size) → K (a.put o.dst v') w') : OpWp P o a w K Q := by
  obtain ⟨i, hi, hz0, hz1, hz2⟩ := info_parts hinfo
  obtain ⟨v', w', hr, h2, h3, _, h5⟩ := run_append_own_at (P := P) w 0 t o.type e i z 1 bytes ht hi hz0 hz1 hz2 hzs (by decide) v S.length S hown ad 1 c [u] rfl (fun j q hj => by
      have hj0 : j = 0 := by
        have := (List.getElem?_eq_some_iff.1 hj).1
        simpa using this
      subst hj0
      obtain rfl : u = q := by simpa using hj
      exact hnews) (fun q hq => by
      obtain rfl := List.mem_singleton.1 hq
      exact hu) (by unfold maxLen; omega) (Nat.le_trans (Nat.mul_le_mul (show S.length + 1 ≤ 1000001 by omega) hby) (by decide)) (Nat.zero_le _)
  refine ⟨?_⟩
  unfold Oper.wp execOp
  simp only [ho, resolve, invoke, builtin, Sem.run_bind, Sem.run_pure, Result.andThen_ok, List.map_toArray, List.map_cons, List.map_nil, hs, hx, hr]
  refine h v' w' ?_ h3 h5
  show w'.ownsRow 0 e 1 v' (S ++ [u]).length (S ++ [u])
  rw [List.length_append]
  exact h2
end

/-! ### 'x.f = append(x.f, T{f(..)})': number i lays the literal, number j pushes it -/
structure PushInv (i j : Nat) (A M : World → Prop) (E : World → Value → World → Prop) (u : Value) (s : Nat → Bool) (V : Nat → Value) (w : World) : Prop where
  always : A w
  mid : s j = false → M w
  lit : s i = true → s j = false → ∃ g, V i = .slice (some ⟨g, 0, none⟩) 1 1 ∧ w.cell? ((⟨g, 0, none⟩ : Addr).add 0) = some u
  fin : s j = true → ∃ wa, M wa ∧ E wa (V j) w
  late : s j = true → s i = true
section
variable {i j : Nat} {A M : World → Prop} {E : World → Value → World → Prop} {u : Value} {s : Nat → Bool} {V : Nat → Value} {w : World}
theorem PushInv.none (hA : A w) (hM : M w) : PushInv i j A M E u (fun _ => false) V w := ⟨hA, fun _ => hM, (fun h => by cases h), (fun h => by cases h), (fun h => by cases h)⟩
theorem PushInv.ne {k : Nat} {v : Value} (h : PushInv i j A M E u s V w) (hi : i ≠ k) (hj : j ≠ k) : PushInv i j A M E u (fun n => s n || n == k) (upd V k v) w := by
  have e1 : (s i || i == k) = s i := by simp [hi]
  have e2 : (s j || j == k) = s j := by simp [hj]
  refine ⟨h.always, fun hh => h.mid (by rw [← e2]; exact hh), fun h1 h2 => ?_, fun hh => ?_, fun hh => ?_⟩
  · obtain ⟨g, e, hc⟩ := h.lit (by rw [← e1]; exact h1) (by rw [← e2]; exact h2)
    exact ⟨g, by rw [upd_ne V v hi]; exact e, hc⟩
  · obtain ⟨wa, hm, he⟩ := h.fin (by rw [← e2]; exact hh)
    exact ⟨wa, hm, by rw [upd_ne V v hj]; exact he⟩
  · show (s i || i == k) = true
    rw [e1]
    exact h.late (by rw [← e2]; exact hh)
theorem PushInv.build {e : TypeId} (h : PushInv i j A M E u s V w) (hu : s i = false) (hne : i ≠ j) (hA : A (w.alloc (.cells #[u] e))) (hM : M w → M (w.alloc (.cells #[u] e))) :
    PushInv i j A M E u (fun n => s n || n == i) (upd V i (.slice (some ⟨w.heap.size, 0, Option.none⟩) 1 1)) (w.alloc (.cells #[u] e)) := by
  have hj : s j = false := by
    cases hh : s j with
    | false => rfl
    | true => rw [h.late hh] at hu; cases hu
  have e2 : (s j || j == i) = false := by simp [hj, Ne.symm hne]
  refine ⟨hA, fun _ => hM (h.mid hj), fun _ _ => ⟨w.heap.size, upd_same _ _ _, by rw [Addr.add_lit, Lib.cell_of_heap (heap_alloc_new w _)]; rfl⟩, fun hh => ?_, fun hh => ?_⟩
  · exact absurd (show (s j || j == i) = true from hh) (by rw [e2]; decide)
  · exact absurd (show (s j || j == i) = true from hh) (by rw [e2]; decide)
theorem PushInv.push {v : Value} {w' : World} (h : PushInv i j A M E u s V w) (hi : s i = true) (hj : s j = false) (hA : A w') (hE : E w v w') : PushInv i j A M E u (fun n => s n || n == j) (upd V j v) w' := by
  have e : (s j || j == j) = true := by simp
  refine ⟨hA, fun hh => ?_, fun _ hh => ?_, fun _ => ⟨w, h.mid hj, by rw [upd_same]; exact hE⟩, fun _ => ?_⟩
  · exact absurd (show (s j || j == j) = false from hh) (by rw [e]; decide)
  · exact absurd (show (s j || j == j) = false from hh) (by rw [e]; decide)
  · show (s i || i == j) = true
    rw [hi]; rfl
end

/-! ### Guarded operations; comparisons; texts' tails -/
/-- A guarded operation whose guard says yes. -/
theorem FreeStep.asked {P : Program} {ops : Array Oper} {Q : Exit → Act → World → Prop} {F : (Nat → Value) → Act} {Inv : (Nat → Bool) → (Nat → Value) → World → Prop} {o : Oper} {i : Nat} (j : Nat) (b : Bool) (hg : o.guard = some (j, b))
    (hy : ∀ V, V j = .bool b → yielded ops (F V).tmps j = some b) (hv : ∀ s V w, (∀ e ∈ o.after, Region.binds .any e = true → s e.on = true) → Inv s V w → V j = .bool b)
    (h : ∀ s V w, (∀ e ∈ o.after, Region.binds .any e = true → s e.on = true) → s i = false → Inv s V w → ∀ K : Act → World → Prop, (∀ v w', Inv (fun j => s j || j == i) (upd V i v) w' → K ((F V).put o.dst v) w') → OpWp P o (F V) w K Q) : FreeStep P ops Q F Inv o i := ⟨fun s V w hr hu hI K hK => by
  have hw : Region.wanted o (yielded ops (F V).tmps) = true := by simp [Region.wanted, hg, hy V (hv s V w hr hI)]
  rw [if_pos hw]
  exact (h s V w hr hu hI K hK).out⟩
/-- '==' of two values. -/
theorem op_eqlv {P : Program} {o : Oper} {a : Act} {w : World} {K : Act → World → Prop} {Q : Exit → Act → World → Prop} (t u : TypeId) (x y : Operand) (ho : o.op = .binOp .eql t x y u) (vx vy : Value) (b : Bool) (hx : a.eval x = vx) (hy : a.eval y = vy)
    (hg : ∀ w, (eqGuard .eql t x y vx vy).run P w = .ok () w) (hr : ∀ w, (binOp .eql t vx vy).run P w = .ok (.bool b) w) (h : K (a.put o.dst (.bool b)) w) : OpWp P o a w K Q := by
  refine ⟨?_⟩
  unfold Oper.wp execOp
  simp only [ho, hx, hy, Sem.run_bind, Sem.run_pure, hg, hr, Result.andThen_ok]
  exact h
/-- The second of '&&', behind a first that says yes. -/
theorem op_pick_yes {P : Program} {o : Oper} {a : Act} {w : World} {K : Act → World → Prop} {Q : Exit → Act → World → Prop} (c x y : Operand) (ho : o.op = .pick c x y) (hc : a.eval c = .bool true) (v : Value) (hx : a.eval x = v) (h : K (a.put o.dst v) w) : OpWp P o a w K Q := by
  refine ⟨?_⟩
  unfold Oper.wp execOp
  simp only [ho, hc, hx, asBool, Sem.run_bind, Sem.run_pure, Result.andThen_ok, if_true]
  exact h
/-- A text's tail. -/
theorem op_slice_tail {P : Program} {o : Oper} {a : Act} {w : World} {K : Act → World → Prop} {Q : Exit → Act → World → Prop} (ty : TypeId) (x : Operand) (n : Nat) (ho : o.op = .slice ty x (some (.const (.int .i64 n))) none none) (s : List UInt8) (hx : a.eval x = .string ⟨s.toArray⟩)
    (hu : P.underlying ty = some .string) (hn : n ≤ s.length) (h : K (a.put o.dst (.string ⟨(s.drop n).toArray⟩)) w) : OpWp P o a w K Q := by
  have hr := run_slice_string_l (P := P) w ty ⟨s.toArray⟩ hu .i64 (n : Int) (by omega) (by show (n : Int) ≤ ((⟨s.toArray⟩ : ByteArray).size : Int); simp [ByteArray.size]; omega)
  rw [Int.toNat_natCast, show (⟨s.toArray⟩ : ByteArray).size = s.length by simp [ByteArray.size], extract_tail] at hr
  have hr2 := (run_sliceAt_string (P := P) w ty (.string ⟨s.toArray⟩) (some (.int .i64 (n : Int))) none none hu).trans hr
  refine ⟨?_⟩
  unfold Oper.wp execOp
  simp only [ho, Option.map_some, Option.map_none, show a.eval (.const (.int .i64 (n : Int))) = .int .i64 (n : Int) from rfl, hx, Sem.run_bind, Sem.run_pure, hr2, Result.andThen_ok]
  exact h

/-- Any operator. -/
theorem op_bin {P : Program} {o : Oper} {a : Act} {w : World} {K : Act → World → Prop} {Q : Exit → Act → World → Prop} (op : BinOp) (t u : TypeId) (x y : Operand) (ho : o.op = .binOp op t x y u) (vx vy r : Value) (hx : a.eval x = vx) (hy : a.eval y = vy)
    (hg : ∀ w, (eqGuard op t x y vx vy).run P w = .ok () w) (hr : ∀ w, (binOp op t vx vy).run P w = .ok r w) (h : K (a.put o.dst r) w) : OpWp P o a w K Q := by
  refine ⟨?_⟩
  unfold Oper.wp execOp
  simp only [ho, hx, hy, Sem.run_bind, Sem.run_pure, hg, hr, Result.andThen_ok]
  exact h
/-- A part of a text. -/
theorem op_slice_part {P : Program} {o : Oper} {a : Act} {w : World} {K : Act → World → Prop} {Q : Exit → Act → World → Prop} (ty : TypeId) (x y z : Operand) (ho : o.op = .slice ty x (some y) (some z) none) (s : List UInt8) (i n : Nat) (hx : a.eval x = .string ⟨s.toArray⟩)
    (hy : a.eval y = .int .i64 i) (hz : a.eval z = .int .i64 ((i + n : Nat) : Int)) (hu : P.underlying ty = some .string) (hn : i + n ≤ s.length) (h : K (a.put o.dst (.string ⟨((s.drop i).take n).toArray⟩)) w) : OpWp P o a w K Q := by
  have hs : (⟨s.toArray⟩ : ByteArray).size = s.length := by simp [ByteArray.size]
  have hr := run_slice_string_if (P := P) w ty ⟨s.toArray⟩ .i64 .i64 (i : Int) ((i + n : Nat) : Int) hu
  have he : (⟨s.toArray⟩ : ByteArray).extract i (i + n) = ⟨((s.drop i).take n).toArray⟩ := by
    apply ByteArray.ext
    simp only [ByteArray.data_extract]
    rw [List.extract_toArray]
    congr 1
    rw [List.extract_eq_take_drop, Nat.add_sub_cancel_left]
  simp only [hs, Int.toNat_natCast] at hr
  rw [he] at hr
  have hr2 := (run_sliceAt_string (P := P) w ty (.string ⟨s.toArray⟩) (some (.int .i64 (i : Int))) (some (.int .i64 ((i + n : Nat) : Int))) none hu).trans (hr.trans (by rw [if_pos ⟨by omega, by omega⟩, if_pos ⟨by omega, by omega⟩]))
  refine ⟨?_⟩
  unfold Oper.wp execOp
  simp only [ho, Option.map_some, Option.map_none, hx, hy, hz, Sem.run_bind, Sem.run_pure, hr2, Result.andThen_ok]
  exact h

/-! ### Two calls that turn the world, one behind the other -/
structure Seq2 (i j : Nat) (A M0 M1 M2 : World → Prop) (s : Nat → Bool) (w : World) : Prop where
  always : A w
  m0 : s i = false → M0 w
  m1 : s i = true → s j = false → M1 w
  m2 : s j = true → M2 w
  late : s j = true → s i = true
section
variable {i j : Nat} {A M0 M1 M2 : World → Prop} {s : Nat → Bool} {w w' : World}
theorem Seq2.none (hA : A w) (h0 : M0 w) : Seq2 i j A M0 M1 M2 (fun _ => false) w := ⟨hA, fun _ => h0, (fun h => by cases h), (fun h => by cases h), (fun h => by cases h)⟩
theorem Seq2.ne {k : Nat} (h : Seq2 i j A M0 M1 M2 s w) (hi : i ≠ k) (hj : j ≠ k) : Seq2 i j A M0 M1 M2 (fun n => s n || n == k) w := by
  have e1 : (s i || i == k) = s i := by simp [hi]
  have e2 : (s j || j == k) = s j := by simp [hj]
  exact ⟨h.always, fun hh => h.m0 (by rw [← e1]; exact hh), fun h1 h2 => h.m1 (by rw [← e1]; exact h1) (by rw [← e2]; exact h2), fun hh => h.m2 (by rw [← e2]; exact hh), fun hh => by
    show (s i || i == k) = true
    rw [e1]
    exact h.late (by rw [← e2]; exact hh)⟩
theorem Seq2.first (h : Seq2 i j A M0 M1 M2 s w) (hu : s i = false) (hne : j ≠ i) (hA : A w') (h1 : M1 w') : Seq2 i j A M0 M1 M2 (fun n => s n || n == i) w' := by
  have hj : s j = false := by
    cases hh : s j with
    | false => rfl
    | true => rw [h.late hh] at hu; cases hu
  have e1 : (s i || i == i) = true := by simp
  have e2 : (s j || j == i) = false := by simp [hj, hne]
  refine ⟨hA, fun hh => ?_, fun _ _ => h1, fun hh => ?_, fun hh => ?_⟩
  · exact absurd (show (s i || i == i) = false from hh) (by rw [e1]; decide)
  · exact absurd (show (s j || j == i) = true from hh) (by rw [e2]; decide)
  · exact absurd (show (s j || j == i) = true from hh) (by rw [e2]; decide)
theorem Seq2.second (hi : s i = true) (hA : A w') (h2 : M2 w') : Seq2 i j A M0 M1 M2 (fun n => s n || n == j) w' := by
  have e1 : (s i || i == j) = true := by rw [hi]; rfl
  have e2 : (s j || j == j) = true := by simp
  refine ⟨hA, fun hh => ?_, fun _ hh => ?_, fun _ => h2, fun _ => e1⟩
  · exact absurd (show (s i || i == j) = false from hh) (by rw [e1]; decide)
  · exact absurd (show (s j || j == j) = false from hh) (by rw [e2]; decide)
end
theorem results_cells_tmp {P : Program} {fn : Func} {p u : Tmp} {ty : TypeId} (h : fn.results = #[.cell p ty, .tmp u]) (tmps : Array Value) (w : World) (g : Nat) (cs : Array Value) (t : TypeId) (d : TypeDesc) (v : Value)
    (hp : tmps.getD p undef = .pointer (some ⟨g, 0, none⟩)) (hv : tmps.getD u undef = v) (hg : Cells g t cs w)
    (hu : P.underlying ty = some d) (hd : (match d with | .struct _ | .array _ _ => true | _ => false) = true) (hi : (P.info? ty).map (·.size) = some cs.size) :
    (results fn tmps).run P w = .ok (.tuple #[.agg cs, v]) w := by
  rw [results_cell_tmp h, hp, hv]
  simp [asAddr, Result.andThen, run_loadVar_row w g t ty _ (0, 0) d hg hu hd hi]
theorem results_cell1 {P : Program} {fn : Func} {p : Tmp} {ty : TypeId} (h : fn.results = #[.cell p ty]) (tmps : Array Value) (w : World) (a : Addr) (v : Value) (hp : tmps.getD p undef = .pointer (some a)) (hc : w.cell? a = some v) (hi : ∀ w, (isAgg ty).run P w = .ok false w) : (results fn tmps).run P w = .ok v w := by
  have hp' : tmps[p]?.getD undef = .pointer (some a) := by simpa using hp
  simp [results, h, hp', asAddr, run_loadVar_cell w ty a v hc hi]
end Go.Proofs.YthgfpojfnhkckaaDoor
