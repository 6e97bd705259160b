/-
  The developers' seg: the sectors of a batch are written.
-/
import Derived.Test.YthnagnjcbgcnfaaSegRun
namespace Go.Proofs.Ythnagnjcbgcnfaa
open Go.RowKit Go.BigFrame

attribute [local go_sem] Oper.semAt_some

theorem strCells_bytes (l : List UInt8) : Lib.strCells ⟨l.toArray⟩ = nums .u8 (byteNs l) := by simp [Lib.strCells, nums, byteNs]
theorem wpList_append_text {P : Program} {w : World} {ops : Array Oper} {rest : List Oper} {o : Oper} {a : Act} {Q : Exit → Act → World → Prop} (hgd : o.guard = none) (s x : Operand) (t u e : TypeId)
    (ho : o.op = .call { callee := .builtin .append, args := #[s, x], argTypes := #[t, u] })
    (B : Nat) (ht : P.underlying t = some (.slice e)) (hu : P.underlying u = some .string) (hinfo : (P.info? e).map (fun i => (i.zero, i.size, i.bytes)) = some (some (.int .u8 0), 1, 1))
    (v : Value) (l : List Nat) (m : List UInt8) (hs : a.eval s = v) (hown : OwnN B e .u8 v l w) (hx : a.eval x = .string ⟨m.toArray⟩) (hb : l.length + m.length ≤ 6000000) (hB : B ≤ w.heap.size)
    (h : ∀ v' w', Hid (OwnN B e .u8 v' (l ++ byteNs m) w') → Hid (Below B w w') → wpList P ops Q rest (a.put o.dst v') w') : wpList P ops Q (o :: rest) a w := by
  obtain ⟨i, hi, hz0, hz1, hz2⟩ := info_parts hinfo
  have hm : (⟨m.toArray⟩ : ByteArray).size = m.length := by simp [ByteArray.size]
  refine Lib.wpList_append_own_string w hgd s x t u ho B e i ht hu hi hz0 hz1 hz2 v l.length (nums .u8 l) hs hown ⟨m.toArray⟩ hx (by rw [hm]; unfold maxLen; omega) (by rw [hm]; omega) hB ?_
  intro v' w' h2 hg _
  refine h v' w' ?_ ((Below.refl B w).grown hg hB (fun k hk => (World.ownsRow.lt hown k hk).1))
  show w'.ownsRow B e 1 v' (l ++ byteNs m).length (nums .u8 (l ++ byteNs m))
  rw [List.length_append, byteNs_len, ← hm]
  rw [strCells_bytes] at h2
  rw [show nums .u8 (l ++ byteNs m) = nums .u8 l ++ nums .u8 (byteNs m) by simp [nums]]
  exact h2
theorem boxes3 (w : World) (u v x : Value) (a b c : TypeId) (w1 : World) (hw : w1 = ((w.alloc (.cells #[u] a)).alloc (.cells #[v] b)).alloc (.cells #[x] c)) :
    Cells w.heap.size a #[u] w1 ∧ Cells (w.heap.size + 1) b #[v] w1 ∧ Cells (w.heap.size + 2) c #[x] w1 ∧ Below w.heap.size w w1 ∧ w1.heap.size = w.heap.size + 3 := by
  have b1 : Below w.heap.size w (w.alloc (.cells #[u] a)) := (Below.refl _ _).alloc (Nat.le_refl _) _
  have c1 : Cells w.heap.size a #[u] (w.alloc (.cells #[u] a)) := heap_alloc_new w _
  have s1 : (w.alloc (.cells #[u] a)).heap.size = w.heap.size + 1 := World.size_alloc _ _
  generalize w.alloc (.cells #[u] a) = y at hw b1 c1 s1
  have b2 : Below y.heap.size y (y.alloc (.cells #[v] b)) := (Below.refl _ _).alloc (Nat.le_refl _) _
  have c2 : Cells y.heap.size b #[v] (y.alloc (.cells #[v] b)) := heap_alloc_new y _
  have s2 : (y.alloc (.cells #[v] b)).heap.size = y.heap.size + 1 := World.size_alloc _ _
  generalize y.alloc (.cells #[v] b) = z at hw b2 c2 s2
  have b3 : Below z.heap.size z (z.alloc (.cells #[x] c)) := (Below.refl _ _).alloc (Nat.le_refl _) _
  have c3 : Cells z.heap.size c #[x] (z.alloc (.cells #[x] c)) := heap_alloc_new z _
  have s3 : (z.alloc (.cells #[x] c)).heap.size = z.heap.size + 1 := World.size_alloc _ _
  rw [← hw] at b3 c3 s3
  have c1z := (c1.below b2).below b3
  have c2z := c2.below b3
  rw [s2, s1] at c3 s3
  rw [s1] at c2z
  exact ⟨c1z, c2z, c3, b1.trans ((b2.mono b1.size).trans (b3.mono (Nat.le_trans b1.size b2.size))), s3⟩
theorem OwnN.block {B : Nat} {e : TypeId} {k : IntKind} {ao : Option Addr} {n c : Nat} {l : List Nat} {w : World} (h : OwnN B e k (.slice ao n c) l w) : ∃ g, 0 < n → ao = some ⟨g, 0, none⟩ ∧ B ≤ g ∧ g < w.heap.size := by
  rcases h.2 with ⟨h1, h2⟩ | ⟨g, cap, cur, hv, hB, hh, _⟩
  · injection h1 with h1 h3 h4
    exact ⟨0, fun h => by omega⟩
  · injection hv with hv
    exact ⟨g, fun _ => ⟨hv, hB, lt_of_block hh⟩⟩
/-- The disk in the midst of a batch; the number of the next sector in block ga; of what lay there in w0 nothing else has turned. -/
structure WrAt (O : Nat → Prop) (w0 : World) (ga : Nat) (vd : Value) (s : DS) (a : Nat) (W : World) : Prop where
  disk : ∃ O', DiskIs O' vd s W ∧ (∀ b, O' b → O b ∨ w0.heap.size ≤ b)
  only : Only (fun k => O k ∨ k = ga) w0 W
  at' : W.cell? ⟨ga, 0, none⟩ = some (.int .i64 (a : Int))
  frozen : W.frozen? ⟨ga, 0, none⟩ = false
/-- It was left with an error. -/
structure WrEnd (O : Nat → Prop) (w0 : World) (ga gr : Nat) (vd : Value) (s : DS) (E : Nat) (W : World) : Prop where
  disk : ∃ O', DiskIs O' vd s W ∧ (∀ b, O' b → O b ∨ w0.heap.size ≤ b)
  only : Only (fun k => O k ∨ k = ga ∨ k = gr) w0 W
  res : W.cell? ⟨gr, 0, none⟩ = some (.int .i64 (E : Int))
theorem DiskIs.kept {O : Nat → Prop} {v : Value} {s : DS} {W W' : World} {row : Option Nat} (h : DiskIs O v s W) (hg : W.grownBy W' row) (hr : ∀ r, row = some r → ∃ o : Obj, W.heap[r]? = some o ∧ o.isCells = false) : DiskIs O v s W' :=
  h.only (Only.grown' hg) (fun b hb e => by
    obtain ⟨o, ho, hc⟩ := hr b e
    exact h.notIn ho hc hb)
theorem WrAt.kept {O : Nat → Prop} {w0 : World} {ga a : Nat} {vd : Value} {s : DS} {W W' : World} {row : Option Nat} (h : WrAt O w0 ga vd s a W) (hg : W.grownBy W' row) (hr : ∀ r, row = some r → w0.heap.size ≤ r ∧ ∃ o : Obj, W.heap[r]? = some o ∧ o.isCells = false) : WrAt O w0 ga vd s a W' := by
  obtain ⟨O', hd, ho⟩ := h.disk
  exact ⟨⟨O', hd.kept hg (fun r e => (hr r e).2), ho⟩, h.only.grown hg (fun b e => .inr (hr b e).1), cell_kept h.at' hg (fun r e => (hr r e).2), (frozen_kept h.at' hg (fun r e => (hr r e).2)).trans h.frozen⟩
theorem WrEnd.kept {O : Nat → Prop} {w0 : World} {ga gr E : Nat} {vd : Value} {s : DS} {W W' : World} {row : Option Nat} (h : WrEnd O w0 ga gr vd s E W) (hg : W.grownBy W' row) (hr : ∀ r, row = some r → w0.heap.size ≤ r ∧ ∃ o : Obj, W.heap[r]? = some o ∧ o.isCells = false) : WrEnd O w0 ga gr vd s E W' := by
  obtain ⟨O', hd, ho⟩ := h.disk
  exact ⟨⟨O', hd.kept hg (fun r e => (hr r e).2), ho⟩, h.only.grown hg (fun b e => .inr (hr b e).1), cell_kept h.res hg (fun r e => (hr r e).2)⟩
theorem boxesKept_t {s n : Nat} {A B C : World} (h : BoxesKept s n A B) (k : BoxesKept s n B C) : BoxesKept s n A C := fun b v hb hc => k b v hb (h b v hb hc)
theorem boxesKept_b {s n : Nat} {w : World} (W : World) (l : Nat) (o o' : Obj) (_ : w.heap.size ≤ l) (h : W.heap[l]? = some o) (hc : o.isCells = false) (_ : o.isWalk = false) : BoxesKept s n W (W.putObj l o') := fun _ _ _ hv =>
  cell_kept hv (grownBy_putObj' W l o') (fun r e => by
    cases e
    exact ⟨o, h, hc⟩)
/-- Between two rounds, and behind one that left. -/
def InI (O : Nat → Prop) (w0 : World) (ga : Nat) (vd : Value) (T : List UInt8) (k : Nat) (s : DS) (pre : List Nat) (W : World) : Prop := okW T k pre (2 + k) s ∧ WrAt O w0 ga vd (runW T k pre (2 + k) s) (2 + k + pre.length) W
def InX (O : Nat → Prop) (w0 : World) (ga gr : Nat) (vd : Value) (T : List UInt8) (k : Nat) (s : DS) (c : Code) (pre : List Nat) (W : World) : Prop :=
  ∃ p x E, c = .ret ∧ pre = p ++ [x] ∧ okW T k p (2 + k) s ∧ E = writeE (runW T k p (2 + k) s) ((2 + k + p.length : Nat) : Int) (partS T (k + x)) ∧ E ≠ 0 ∧ WrEnd O w0 ga gr vd (runW T k pre (2 + k) s) E W
theorem inI_own {O : Nat → Prop} {w0 : World} {ga : Nat} {vd : Value} {T : List UInt8} {k : Nat} {s : DS} : OwnFrom w0.heap.size (InI O w0 ga vd T k s) := fun _ _ _ _ h hg hr => ⟨h.1, h.2.kept hg hr⟩
theorem inX_own {O : Nat → Prop} {w0 : World} {ga gr : Nat} {vd : Value} {T : List UInt8} {k : Nat} {s : DS} (c : Code) : OwnFrom w0.heap.size (InX O w0 ga gr vd T k s c) := fun _ _ _ _ ⟨p, x, E, h1, h2, h3, h4, h5, h6⟩ hg hr => ⟨p, x, E, h1, h2, h3, h4, h5, h6.kept hg hr⟩

theorem InI.next {O O'' : Nat → Prop} {w0 W1 : World} {ga : Nat} {vd : Value} {T : List UInt8} {k x a : Nat} {s : DS} {pre : List Nat} (hok : okW T k pre (2 + k) s) (ha : 2 + k + pre.length = a) (he : writeE (runW T k pre (2 + k) s) (a : Int) (partS T (k + x)) = 0)
    (hd : DiskIs O'' vd (writeS (runW T k pre (2 + k) s) (a : Int) (partS T (k + x))) W1) (ho : ∀ b, O'' b → O b ∨ w0.heap.size ≤ b) (hon : Only (fun k => O k ∨ k = ga) w0 W1) (hn : ¬ O'' ga) (hc : W1.cell? ⟨ga, 0, none⟩ = some (.int .i64 (a : Int))) (hf : W1.frozen? ⟨ga, 0, none⟩ = false) :
    InI O w0 ga vd T k s (pre ++ [x]) (W1.setCell ⟨ga, 0, none⟩ (.int .i64 ((a : Int) + 1))) := by
  subst ha
  refine ⟨(okW_snoc T k x pre (2 + k) s).2 ⟨hok, he⟩, ⟨O'', ?_, ho⟩, hon.setCell 0 _ (.inl (.inr rfl)), ?_, by rw [World.frozen?_setCell]; exact hf⟩
  · rw [runW_snoc]
    exact hd.only ((Only.refl (fun b => b = ga) W1).setCell 0 _ (.inl rfl)) (fun b hb e => hn (by rw [← e]; exact hb))
  · rw [World.cell?_setCell_same' _ _ _ (by rw [hc]; rfl), List.length_append, List.length_singleton]
    congr 2
theorem InX.left {O O'' : Nat → Prop} {w0 W1 : World} {ga gr : Nat} {vd : Value} {T : List UInt8} {k x a E : Nat} {s : DS} {pre : List Nat} (hok : okW T k pre (2 + k) s) (ha : 2 + k + pre.length = a) (he : writeE (runW T k pre (2 + k) s) (a : Int) (partS T (k + x)) = E) (h0 : E ≠ 0)
    (hd : DiskIs O'' vd (writeS (runW T k pre (2 + k) s) (a : Int) (partS T (k + x))) W1) (ho : ∀ b, O'' b → O b ∨ w0.heap.size ≤ b) (hon : Only (fun k => O k ∨ k = ga) w0 W1) (hn : ¬ O'' gr) (hc : W1.cell? ⟨gr, 0, none⟩ = some (.int .i64 0)) :
    InX O w0 ga gr vd T k s .ret (pre ++ [x]) (W1.setCell ⟨gr, 0, none⟩ (.int .i64 (E : Int))) := by
  subst ha
  refine ⟨pre, x, E, rfl, rfl, hok, he.symm, h0, ⟨O'', ?_, ho⟩, ?_, World.cell?_setCell_same' _ _ _ (by rw [hc]; rfl)⟩
  · rw [runW_snoc]
    exact hd.only ((Only.refl (fun b => b = gr) W1).setCell 0 _ (.inl rfl)) (fun b hb e => hn (by rw [← e]; exact hb))
  · have h1 : Only (fun k => O k ∨ k = ga ∨ k = gr) w0 W1 := ⟨hon.os, hon.tape, hon.output, hon.size, fun k hk hne => hon.block k hk (fun e => hne (e.elim .inl (fun e => .inr (.inl e))))⟩
    exact h1.setCell 0 _ (.inl (.inr (.inr rfl)))
theorem round_facts {O O' O'' : Nat → Prop} {w3 W W1 : World} {ga : Nat} {vd : Value} {s s2 : DS} (hd : DiskIs O' vd s W) (hO' : ∀ b, O' b → O b ∨ w3.heap.size ≤ b) (hoi : Only (fun k => O k ∨ k = ga) w3 W) (_hd2 : DiskIs O'' vd s2 W1) (ht : Turn O' O'' W.drew W1) :
    KeepsFrom w3.heap.size W W1 ∧ (∀ k, k < w3.heap.size → ¬ O k → W1.heap[k]? = W.heap[k]?) ∧ (∀ b, O'' b → O b ∨ w3.heap.size ≤ b) ∧ Only (fun k => O k ∨ k = ga) w3 W1 := by
  have hsz : w3.heap.size ≤ W.heap.size := hoi.size
  have hon : Only O' W W1 := ⟨ht.only.os, ht.only.tape, ht.only.output, ht.only.size, ht.only.block⟩
  refine ⟨⟨hon.size, fun k o _ hk ho => (hon.block k (lt_of_block hk) (hd.notIn hk ho)).trans hk⟩, fun k hk hno => hon.block k (Nat.lt_of_lt_of_le hk hsz) (fun e => ?_), fun b hb => ?_, hoi.trans hon (fun b hb => ?_)⟩
  · rcases hO' k e with h | h
    · exact hno h
    · omega
  · rcases ht.own b hb with h | h
    · exact hO' b h
    · exact .inr (Nat.le_trans hsz h)
  · rcases hO' b hb with h | h
    · exact .inl (.inl h)
    · exact .inr h
theorem WrEnd.turn {O : Nat → Prop} {w w3 W : World} {ga gr E : Nat} {vd : Value} {s : DS} (h : WrEnd O w3 ga gr vd s E W) (hb : Below w.heap.size w w3) (hga : w.heap.size ≤ ga) (hgr : w.heap.size ≤ gr) : ∃ O', DiskIs O' vd s W ∧ Turn O O' w W := by
  obtain ⟨O', hd, ho⟩ := h.disk
  refine ⟨O', hd, ⟨(Only.of hb).trans h.only (fun b hb => ?_), fun b hO => ?_⟩⟩
  · rcases hb with h | h | h
    · exact .inl h
    · exact .inr (by omega)
    · exact .inr (by omega)
  · rcases ho b hO with h | h
    · exact .inl h
    · exact .inr (Nat.le_trans hb.size h)
theorem WrAt.fin {O : Nat → Prop} {w0 W : World} {ga gr a : Nat} {vd : Value} {s : DS} (h : WrAt O w0 ga vd s a W) (hn : gr < w0.heap.size) (hO : ¬ O gr) (hc : (W.cell? ⟨gr, 0, none⟩).isSome = true) : WrEnd O w0 ga gr vd s 0 (W.setCell ⟨gr, 0, none⟩ (.int .i64 0)) := by
  obtain ⟨O', hd, ho⟩ := h.disk
  refine ⟨⟨O', hd.only ((Only.refl (fun b => b = gr) W).setCell 0 _ (.inl rfl)) (fun b hb e => ?_), ho⟩, ?_, World.cell?_setCell_same' _ _ _ hc⟩
  · subst e
    rcases ho b hb with h | h
    · exact hO h
    · omega
  · have h1 : Only (fun k => O k ∨ k = ga ∨ k = gr) w0 W := ⟨h.only.os, h.only.tape, h.only.output, h.only.size, fun k hk hne => h.only.block k hk (fun e => hne (e.elim .inl (fun e => .inr (.inl e))))⟩
    exact h1.setCell 0 _ (.inl (.inr (.inr rfl)))
theorem results_cell1 {P : Program} {fn : Func} {p : Tmp} {ty : TypeId} (h : fn.results = #[.cell p ty]) (tmps : Array Value) (w : World) (a : Addr) (v : Value) (hp : tmps.getD p undef = .pointer (some a)) (hc : w.cell? a = some v) (hi : ∀ w, (isAgg ty).run P w = .ok false w) : (results fn tmps).run P w = .ok v w := by
  have hp' : tmps[p]?.getD undef = .pointer (some a) := by simpa using hp
  simp [results, h, hp', asAddr, run_loadVar_cell w ty a v hc hi]
/-- What write makes of a disk. -/
def WriteR (s : DS) (e : Nat) (S S' : List UInt8) (E : Nat) (s' : DS) : Prop :=
  (E = 0 ∧ (∃ K, Mid s' e S S' K ∧ S'.length ≤ 128 * K) ∧ (s.fuse = 0 → s'.fuse = 0)) ∨ (E = 7 ∧ s.fuse ≠ 0 ∧ Down s' e S)

theorem range_split {k x : Nat} {p : List Nat} (h : List.range k = p ++ [x]) : ∃ j, k = j + 1 ∧ p = List.range j ∧ x = j := by
  cases k with
  | zero => simp at h
  | succ j =>
    rw [List.range_succ] at h
    obtain ⟨h1, h2⟩ := List.append_inj' h rfl
    exact ⟨j, rfl, h1.symm, by simpa using h2.symm⟩
theorem write_ok {s : DS} {e n nx k0 : Nat} {S T : List UInt8} (hl : Live s e S) (hf : Fit s n) (hp : S = T.take S.length) (hfit : T.length ≤ 128 * (s.safe.length - 2)) (hk : S.length / 128 = k0) (hn : T.length = 128 * k0 + nx)
    (ho : okW T k0 (List.range ((nx + 127) / 128)) (2 + k0) s) :
    Fit (runW T k0 (List.range ((nx + 127) / 128)) (2 + k0) s) (n + s.safe.length) ∧ WriteR s e S T 0 (runW T k0 (List.range ((nx + 127) / 128)) (2 + k0) s) := by
  have hm := hl.mid hp hfit
  rw [hk] at hm
  refine ⟨(runW_fit T k0 (List.range ((nx + 127) / 128)) (2 + k0) s n hf).mono (by rw [List.length_range]; omega), .inl ⟨rfl, ⟨_, mid_run hm _ (fun i hi => by omega) ho, by omega⟩, runW_fuse _ _ _ _ _⟩⟩
theorem write_stop {s : DS} {e n nx k0 k x E : Nat} {S T : List UInt8} {p pre : List Nat} (hl : Live s e S) (hf : Fit s n) (hp : S = T.take S.length) (hfit : T.length ≤ 128 * (s.safe.length - 2)) (hk : S.length / 128 = k0) (hn : T.length = 128 * k0 + nx)
    (hk2 : k ≤ (nx + 127) / 128) (hpre : pre = List.range k) (hpx : pre = p ++ [x]) (ho : okW T k0 p (2 + k0) s) (hE : E = writeE (runW T k0 p (2 + k0) s) ((2 + k0 + p.length : Nat) : Int) (partS T (k0 + x))) (h0 : E ≠ 0) :
    Fit (runW T k0 pre (2 + k0) s) (n + s.safe.length) ∧ WriteR s e S T E (runW T k0 pre (2 + k0) s) := by
  subst hpre
  obtain ⟨j, rfl, rfl, rfl⟩ := range_split hpx
  have hm := hl.mid hp hfit
  rw [hk] at hm
  rw [List.length_range] at hE
  subst hE
  obtain ⟨h1, h2, h3⟩ := mid_stop hm (fun i hi => by omega) ho h0
  exact ⟨(runW_fit T k0 (List.range (x + 1)) (2 + k0) s n hf).mono (by rw [List.length_range]; omega), .inr ⟨h1, h2, h3⟩⟩

theorem NumsAt.part {g : Nat} {X : List UInt8} {w : World} (h : NumsAt (some ⟨g, 0, none⟩) .u8 (byteNs X) w) (a n : Nat) : NumsAt (some ⟨g, a, none⟩) .u8 (byteNs ((X.drop a).take n)) w := by
  rcases h with h | ⟨b, o, h1, h2, h3⟩
  · have : X = [] := by simpa [byteNs] using h
    subst this
    exact .inl (by simp [byteNs])
  · obtain ⟨rfl, rfl⟩ : g = b ∧ 0 = o := by
      have := Option.some.inj h1
      injection this with h1 h2
      exact ⟨h1, h2⟩
    refine .inr ⟨g, a, rfl, h2, fun j hj => ?_⟩
    rw [byteNs_len, List.length_take, List.length_drop] at hj
    have h4 := h3 (a + j) (by rw [byteNs_len]; omega)
    rw [Nat.zero_add] at h4
    rw [h4]
    simp [byteNs]
theorem NumsAt.block {g a : Nat} {k : IntKind} {l : List Nat} {w w' : World} (h : NumsAt (some ⟨g, a, none⟩) k l w) (hb : l ≠ [] → w'.heap[g]? = w.heap[g]? ∧ w.heap.size ≤ w'.heap.size) : NumsAt (some ⟨g, a, none⟩) k l w' := by
  rcases h with h | ⟨b, o, h1, h2, h3⟩
  · exact .inl h
  · by_cases hl : l = []
    · exact .inl hl
    · obtain ⟨rfl, rfl⟩ : g = b ∧ a = o := by
        have := Option.some.inj h1
        injection this with h1 h2
        exact ⟨h1, h2⟩
      exact .inr ⟨g, a, rfl, Nat.lt_of_lt_of_le h2 (hb hl).2, fun j hj => (World.cell?_of_block (w := w) (a := ⟨g, a + j, none⟩) (hb hl).1).trans (h3 j hj)⟩

set_option maxHeartbeats 4000000 in
set_option maxRecDepth 100000 in
theorem dev8_write (O P : Nat → Prop) (vs vd : Value) (s : DS) (e : Nat) (S : List UInt8) (L : List (List UInt8)) (lo : Option Addr) (lc n : Nat) (w : World) (h : DiskIs O vd s w) (hs : SegIs P vs vd e S w) (hap : ∀ b, O b → ¬ P b) (hl : Live s e S) (hf : Fit s n) (hn : n + s.safe.length + 4 ≤ 900000)
    (hL : StrsAt lo L w) (hLO : L ≠ [] → ∀ a, lo = some a → ¬ O a.block) (hLl : ∀ t ∈ L, t.length ≤ 250000) (hfit : (S ++ textsB L).length ≤ 128 * (s.safe.length - 2)) :
    Calls Try.prog 38 #[vs, .slice lo L.length lc] w fun x w' => ∃ E s' O', x = .returned (.int .i64 (E : Nat)) ∧ DiskIs O' vd s' w' ∧ Turn O O' w w' ∧ Fit s' (n + s.safe.length) ∧ s'.safe.length = s.safe.length ∧ WriteR s e S (S ++ textsB L) E s' := by
  obtain ⟨ad, rfl⟩ := h.ptr
  have hs' := hs
  obtain ⟨b, rfl, hPe, hc⟩ := hs
  have HB0 := Lib.hid (show ∀ w', Below w.heap.size w w' → DiskIs O (.pointer (some ad)) s w' ∧ SegIs P (.pointer (some ⟨b, 0, none⟩)) (.pointer (some ad)) e S w' ∧ StrsAt lo L w' from fun w' k => ⟨h.only (Only.of (O := fun _ => False) k) (fun _ _ => id), hs'.only (Only.of (O := fun _ => False) k) (fun _ _ => id), hL.below k⟩)
  have c2 := hc.at 2
  simp only [segV, List.getElem?_toArray, List.getElem?_cons_zero, List.getElem?_cons_succ] at c2
  have hbO : ¬ O b := fun hO => hap b hO (by rw [hPe])
  have HBO := Lib.hid hbO
  have hblt := hc.lt
  have HSC := Lib.hid hc
  have HLV := Lib.hid hl
  have HF := Lib.hid hf
  have HN := Lib.hid hn
  have HLL := Lib.hid hLl
  have HFI := Lib.hid hfit
  have HLT := Lib.hid h.lt
  have hslen : S.length ≤ 3000000 := by rw [List.length_append] at hfit; have := hf.safe; omega
  have HTA := Lib.hid (fun w' k => dev8_tail O P (.pointer (some ⟨b, 0, none⟩)) (.pointer (some ad)) s e S w' (HB0.out w' k).1 (HB0.out w' k).2.1 (hf.mono (by omega)) hl)
  obtain ⟨k0, hk0⟩ : ∃ k, S.length / 128 = k := ⟨_, rfl⟩
  rw [hk0] at HTA
  have HK0 := Shut.mk hk0
  have hki : ((S.length : Nat) : Int) / 128 = (k0 : Int) := by omega
  obtain ⟨sl, hsl⟩ : ∃ n, S.length = n := ⟨_, rfl⟩
  rw [hsl] at c2 hki hslen
  have HSL := Shut.mk hsl
  clear h hs' hPe hc hbO hl hf hn hL hLl hfit hk0 hsl
  refine callsIn_wide (n := 3) |>.1 ?_
  refine callsIn_of_wp_marks Try.func38 rfl trivial ?_ rfl
  simp only [Try.ntmps38, List.size_toArray, List.length_cons, List.length_nil, Nat.reduceAdd, Nat.reduceSub, Array.replicate_succ, Array.replicate_zero, List.push_toArray, List.append_toArray, List.nil_append, List.cons_append]
  refine wpIn_wide.2 ?_
  go_upto_region 2 with (fail)
  obtain ⟨w1, hw1⟩ : ∃ x, x = ((w.alloc (.cells #[.pointer (some ⟨b, 0, none⟩)] 28)).alloc (.cells #[.int .i64 0] 30)).alloc (.cells #[.int .i64 (2 + (k0 : Int))] 3) := ⟨_, rfl⟩
  obtain ⟨hcs, hcr, hca, hb1, hz1⟩ := boxes3 _ _ _ _ _ _ _ w1 hw1
  rw [← hw1]
  rw [show w.heap.size + 1 + 1 = w.heap.size + 2 from rfl]
  obtain ⟨gs, hgs⟩ : ∃ g, w.heap.size = g := ⟨_, rfl⟩
  obtain ⟨gr, hgr⟩ : ∃ g, w.heap.size + 1 = g := ⟨_, rfl⟩
  obtain ⟨ga, hga⟩ : ∃ g, w.heap.size + 2 = g := ⟨_, rfl⟩
  have HG := Shut.mk (show w.heap.size = gs ∧ w.heap.size + 1 = gr ∧ w.heap.size + 2 = ga ∧ w1.heap.size = w.heap.size + 3 from ⟨hgs, hgr, hga, hz1⟩)
  rw [hgr, hga, hgs]
  rw [hgs] at hcs
  rw [hgr] at hcr
  rw [hga] at hca
  have HCS := Lib.hid hcs
  have HCR := Lib.hid hcr
  have HCA := Lib.hid hca
  have HB1 := Lib.hid hb1
  have s1 := hcs.at 0
  have a1 := hca.at 0
  simp only [List.getElem?_toArray, List.getElem?_cons_zero] at s1 a1
  clear hw1 hcs hcr hca hb1 hz1 hgs hgr hga c2 hki
  go_wp2_with fail
  refine (HTA.out w1 HB1.out).mono ?_
  rintro x w2 ⟨v, rfl, hown, hb2⟩
  obtain ⟨ao, cap, rfl⟩ := hown.form
  have HO2 := Lib.hid hown
  have HB2 := Lib.hid hb2
  obtain ⟨X0, hX0⟩ : ∃ X, S.drop (128 * k0) = X := ⟨_, rfl⟩
  rw [hX0] at HO2
  rw [hX0]
  have HX0 := Shut.mk hX0
  have HXL := Lib.hid (show X0.length + (textsB L).length ≤ 3000000 by
    have h1 := HFI.out
    have h2 := HF.out.safe
    rw [List.length_append] at h1
    rw [← hX0, List.length_drop]
    omega)
  have HLN := Lib.hid (show L.length ≤ 3000000 by have := textsB_count L; have := HXL.out; omega)
  clear hown hb2 HTA s1 a1 hX0
  obtain ⟨xl, hxl⟩ : ∃ n, (byteNs X0).length = n := ⟨_, rfl⟩
  rw [hxl]
  rw [hxl] at HO2
  have HXE := Shut.mk hxl
  clear hxl
  go_wp2_with fail
  go_loopw [6, 30] (fun v i wq => ∃ q : Nat, q ≤ L.length ∧ i = .int .i64 q ∧ OwnN w1.heap.size 5 .u8 v (byteNs (X0 ++ textsB (L.take q))) wq ∧ Below w1.heap.size w1 wq) (fun _ i _ => L.length - (intOf i).toNat)
  case atStart => exact ⟨0, Nat.zero_le _, rfl, by rw [List.take_zero, show textsB [] = [] from rfl, List.append_nil]; exact HO2.out, HB2.out⟩
  case round =>
    clear HO2 HB2
    obtain ⟨q, hq, rfl, hown, hbq⟩ := hrel
    have hln := HLN.out
    by_cases hlt : q < L.length
    · have hbw : Below w.heap.size w wr := HB1.out.trans (hbq.mono HB1.out.size)
      obtain ⟨gl, ol, rfl, hc⟩ := (HB0.out wr hbw).2.2.cell hlt
      have hp := textsB_parts L q hlt
      have htk : textsB (L.take (q + 1)) = textsB (L.take q) ++ textB L[q] := by rw [List.take_succ_eq_append_getElem hlt, textsB_snoc]
      have htl := HLL.out _ (List.getElem_mem hlt)
      obtain ⟨t, ht⟩ : ∃ t, L[q] = t := ⟨_, rfl⟩
      rw [ht] at hc hp htk htl
      have HTE := Lib.hid (text_any t wr (by omega))
      have HTK := Shut.mk (show byteNs (X0 ++ textsB (L.take (q + 1))) = byteNs (X0 ++ textsB (L.take q)) ++ byteNs (textB t) by rw [htk, ← List.append_assoc, byteNs_append])
      have HLE := Lib.hid (show (byteNs (X0 ++ textsB (L.take q))).length + (textB t).length ≤ 6000000 by
        have := HXL.out
        rw [byteNs_len, List.length_append]
        omega)
      obtain ⟨a2, c2, rfl⟩ := hown.form
      obtain ⟨D, hD⟩ : ∃ D, byteNs (X0 ++ textsB (L.take q)) = D := ⟨_, rfl⟩
      rw [hD] at HTK HLE hown ⊢
      have HO := Lib.hid hown
      have HB := Lib.hid hbq
      clear ht hp htk htl hown hbq hbw hD
      go_wp2_with fail
      refine HTE.out.mono ?_
      rintro y w3 ⟨rfl, hb3⟩
      have HO3 := Lib.hid (HO.out.below hb3)
      have HB3 := Lib.hid (HB.out.trans (hb3.mono HB.out.size))
      clear hb3 HO HB HTE
      go_wp2_with (refine wpList_append_text rfl (.tmp 34) (.tmp 36) 40 9 5 rfl w1.heap.size Try.underlying40 Try.underlying9 Try.infoU8 (.slice a2 D.length c2) D (textB t) rfl HO3.out rfl HLE.out HB3.out.size ?_)
      intro v4 w4 ho4 hb4
      have HO4 := Lib.hid (show OwnN w1.heap.size 5 .u8 v4 (byteNs (X0 ++ textsB (L.take (q + 1)))) w4 by rw [HTK.out]; exact ho4.out)
      have HB4 := Lib.hid (HB3.out.trans hb4.out)
      clear ho4 hb4 HO3 HB3 HLE HTK
      go_wp2_with fail
      exact ⟨⟨q + 1, by omega, by go_num, HO4.out, HB4.out⟩, by simp [intOf]; omega⟩
    · obtain rfl : q = L.length := by omega
      rw [List.take_length] at hown
      obtain ⟨a2, c2, rfl⟩ := hown.form
      have HCP := Lib.hid hown.cap
      obtain ⟨g, hg⟩ := hown.block
      have HNU := Lib.hid hown.at
      obtain ⟨X, hX⟩ : ∃ X, X0 ++ textsB L = X := ⟨_, rfl⟩
      rw [hX] at hg HCP HNU ⊢
      obtain ⟨nx, hnx⟩ : ∃ n, (byteNs X).length = n := ⟨_, rfl⟩
      rw [hnx] at hg HCP ⊢
      have HG2 := Lib.hid hg
      have HXX := Shut.mk (show X = (S ++ textsB L).drop (128 * k0) by
        rw [← hX, ← HX0.out, List.drop_append_of_le_length (by have := HK0.out; omega)])
      have HNX := Shut.mk (show X.length = nx ∧ nx ≤ 3000000 by
        rw [← hnx, byteNs_len]
        refine ⟨rfl, ?_⟩
        rw [← hX, List.length_append]
        exact HXL.out)
      have HB := Lib.hid hbq
      clear hown hbq hX hnx hg
      go_wp2_with fail
      refine (chunk_any a2 nx c2 wr).mono ?_
      rintro y w3 ⟨rfl, hbs, hbn, hz3, hb3⟩
      have HB3 := Lib.hid (HB.out.trans (hb3.mono HB.out.size))
      have HNU3 := Lib.hid (HNU.out.below hb3)
      have HSQ := Lib.hid (chunk_seq 2 wr.heap.size (wr.heap.size + 1) g nx c2 a2 (fun h => (HG2.out h).1) HCP.out HNX.out.2 w3 hbs hbn (by omega) (by omega))
      obtain ⟨Bs, hBs⟩ : ∃ x, wr.heap.size = x := ⟨_, rfl⟩
      obtain ⟨Bn, hBn⟩ : ∃ x, wr.heap.size + 1 = x := ⟨_, rfl⟩
      have HBS := Shut.mk (show Bs < w3.heap.size ∧ Bn < w3.heap.size ∧ w1.heap.size ≤ Bs ∧ w1.heap.size ≤ Bn from ⟨by omega, by omega, by have := HB.out.size; omega, by have := HB.out.size; omega⟩)
      have HGW := Lib.hid (show 0 < nx → g < w3.heap.size from fun h => by have := (HG2.out h).2.2; omega)
      rw [hBn, hBs] at HSQ ⊢
      clear hbs hbn hz3 hb3 HB HNU hBn hBs
      go_wp2_with fail
      obtain ⟨T, hT⟩ : ∃ T, S ++ textsB L = T := ⟨_, rfl⟩
      have HPT := Shut.mk (show S = T.take S.length by rw [← hT, List.take_left])
      have HFT := Lib.hid (show T.length ≤ 128 * (s.safe.length - 2) by rw [← hT]; exact HFI.out)
      have HNT := Shut.mk (show T.length = 128 * k0 + nx by
        have f1 := congrArg List.length HXX.out
        have f2 := HNX.out.1
        have f3 := HK0.out
        rw [List.length_drop] at f1
        rw [hT] at f1
        have f4 := congrArg List.length hT
        rw [List.length_append] at f4
        omega)
      have HXT := Shut.mk (show X = T.drop (128 * k0) by rw [HXX.out, hT])
      have HTT := Shut.mk hT
      refine (wpIn_wide (n := 3)).1 ?_
      refine wpIn_rangeFunc_ownG rfl (by decide) (gf := 57) (lb := #[.pointer (some ⟨Bs, 0, none⟩), .pointer (some ⟨Bn, 0, none⟩)]) rfl trivial (enters_of Try.func57 (by kernel_rfl) rfl) HSQ.out boxesKept_t boxesKept_b (Below.refl _ _) (fun _ => rfl)
        (InI O w3 ga (.pointer (some ad)) T k0 s) (InX O w3 ga gr (.pointer (some ad)) T k0 s) inI_own inX_own ?start (fun x => { tmps := List.toArray (.pointer (some ⟨b, 0, none⟩) :: .slice lo L.length lc :: .pointer (some ⟨gs, 0, none⟩) :: undef :: .pointer (some ⟨gr, 0, none⟩) :: .pointer (some ⟨ga, 0, none⟩) :: .slice a2 nx c2 :: .int .i64 0 :: undef :: u9 :: chunkV g nx x :: undef :: .pointer (some ⟨b, 0, none⟩) :: .pointer (some ⟨b, 0, none⟩) :: .pointer (some ⟨b, 1, none⟩) :: .pointer (some ⟨b, 2, none⟩) :: .int .i64 (sl : Int) :: .int .i64 (k0 : Int) :: .int .i64 (2 + (k0 : Int)) :: .tuple #[.slice ao xl cap, .int .i64 0] :: .pointer (some ⟨b, 0, none⟩) :: .int .i64 (2 + (k0 : Int)) :: .tuple #[.slice ao xl cap, .int .i64 0] :: .slice ao xl cap :: .int .i64 0 :: .int .i64 0 :: .bool false :: undef :: .slice lo L.length lc :: .int .i64 (L.length : Int) :: .int .i64 (L.length : Int) :: .bool false :: u32 :: u33 :: u34 :: u35 :: u36 :: u37 :: u38 :: .slice a2 nx c2 :: .func (.func 57) #[] #[.pointer (some ⟨Bs, 0, none⟩), .pointer (some ⟨Bn, 0, none⟩)] :: chunkV g nx x :: undef :: undef :: undef :: undef :: undef :: undef :: undef :: undef :: undef :: undef :: undef :: undef :: []), defers := [] }) ?assign ?body ?done ?stop
      case start =>
        have hca := HCA.out.below HB3.out
        have hz13 : w1.heap.size ≤ w3.heap.size := HB3.out.size
        refine ⟨trivial, ⟨O, (HB0.out w3 (HB1.out.trans (HB3.out.mono HB1.out.size))).1, fun b h => .inl h⟩, Only.refl _ _, ?_, hca.frozen 0⟩
        rw [hca.at 0]
        show some (Value.int .i64 (2 + (k0 : Int))) = _
        congr 2
      case assign =>
        intro l x W K hK
        gi_wp2
        exact hK
      case body =>
        rintro l pre x W ⟨hok, hI⟩ hlen
        obtain ⟨O', hd, hO'⟩ := hI.disk
        have hat := hI.at'
        have hfz := hI.frozen
        have hoi := hI.only
        obtain ⟨e1, e2, e3, e4⟩ := HG.out
        have hcell : ∀ k, k < w3.heap.size → w.heap.size ≤ k ∨ k = b → k ≠ ga → W.heap[k]? = w3.heap[k]? := fun k hk hno hne => hoi.block k hk (fun h => by
          rcases h with h | h
          · rcases hno with h1 | h1
            · have := HLT.out k h
              omega
            · exact HBO.out (by rw [← h1]; exact h)
          · exact hne h)
        have hz13 : w1.heap.size ≤ w3.heap.size := HB3.out.size
        have hcs : Cells gs 28 #[.pointer (some ⟨b, 0, none⟩)] W := (hcell gs (by omega) (.inl (by omega)) (by omega)).trans (HCS.out.below HB3.out)
        have hcr : Cells gr 30 #[.int .i64 0] W := (hcell gr (by omega) (.inl (by omega)) (by omega)).trans (HCR.out.below HB3.out)
        have hcb : Cells b 57 (segV (.pointer (some ad)) e S.length 0) W := (hcell b (by omega) (.inr rfl) (by omega)).trans ((HSC.out.below HB1.out).below HB3.out)
        have s0 := hcs.at 0
        have r0 := hcr.at 0
        have rf := hcr.frozen 0
        have b0 := hcb.at 0
        simp only [segV, List.getElem?_toArray, List.getElem?_cons_zero] at s0 r0 b0
        have hnum : NumsAt (some ⟨g, 128 * x, none⟩) .u8 (byteNs (partS T (k0 + x))) W ∧ (byteNs (partS T (k0 + x)) ≠ [] → ¬ O' g) ∧ (partS T (k0 + x)).length = min 128 (nx - 128 * x) := by
          have hpl : (partS T (k0 + x)).length = min 128 (nx - 128 * x) := by
            rw [partS, List.length_take, List.length_drop, HNT.out]
            omega
          have hpx : partS T (k0 + x) = (X.drop (128 * x)).take 128 := by
            rw [HXT.out, List.drop_drop, partS, show 128 * (k0 + x) = 128 * k0 + 128 * x by omega]
          have hpos : byteNs (partS T (k0 + x)) ≠ [] → 0 < nx := fun h => by
            have h1 : (byteNs (partS T (k0 + x))).length ≠ 0 := fun e => h (List.length_eq_zero_iff.1 e)
            rw [byteNs_len, hpl] at h1
            omega
          refine ⟨?_, fun h hO => ?_, hpl⟩
          · by_cases hn0 : 0 < nx
            · obtain ⟨f1, f2, f3⟩ := HG2.out hn0
              have f4 := HNU3.out
              rw [f1] at f4
              rw [hpx]
              exact (f4.part (128 * x) 128).block (fun _ => ⟨hcell g (by have := HGW.out hn0; omega) (.inl (by omega)) (by omega), hoi.size⟩)
            · refine .inl ?_
              by_cases he : byteNs (partS T (k0 + x)) = []
              · exact he
              · exact absurd (hpos he) hn0
          · obtain ⟨f1, f2, f3⟩ := HG2.out (hpos h)
            rcases hO' g hO with h1 | h1
            · have := HLT.out g h1
              omega
            · have := HGW.out (hpos h)
              omega
        obtain ⟨hnum1, hnum2, hnum3⟩ := hnum
        have hfit' : Fit (runW T k0 pre (2 + k0) s) 999999 := (runW_fit T k0 pre (2 + k0) s n HF.out).mono (by have := HN.out; have := HF.out.safe; have := HNX.out.2; omega)
        have HW := Lib.hid (fun (W' : World) (k : Below W.heap.size W W') => dev7_write O' (.pointer (some ad)) (runW T k0 pre (2 + k0) s) ((2 + k0 + pre.length : Nat) : Int) (partS T (k0 + x)) (some ⟨g, 128 * x, none⟩) (min 128 (nx - 128 * x)) W' (hd.only (Only.of (O := fun _ => False) k) (fun _ _ => id)) hfit' (hnum1.below k) (fun h a ha => by cases ha; exact hnum2 h) (by rw [hnum3]; omega))
        rw [hnum3] at HW
        have hmx : Try.prog.follows .mixedOrders = true := by kernel_rfl
        have hWd : Below W.heap.size W W.drew := (Below.refl _ _).drew
        obtain ⟨at0, hat0⟩ : ∃ a, 2 + k0 + pre.length = a := ⟨_, rfl⟩
        obtain ⟨q, hq⟩ : ∃ q, min 128 (nx - 128 * x) = q := ⟨_, rfl⟩
        rw [hat0] at hat HW
        rw [hq] at HW
        unfold chunkV
        rw [hq]
        have HCE := Lib.hid hcell
        have HD := Lib.hid hd
        have HOI := Lib.hid hoi
        have HOK := Lib.hid hok
        have HO' := Lib.hid hO'
        have HGG := Shut.mk (⟨e1, e2, e3, e4⟩ : w.heap.size = gs ∧ w.heap.size + 1 = gr ∧ w.heap.size + 2 = ga ∧ w1.heap.size = w.heap.size + 3)
        clear hcell hd hoi hok hO' hcs hcr hcb hnum1 hnum2 hnum3 hfit' e1 e2 e3 e4 hI
        obtain ⟨Ex, hEx⟩ : ∃ E, writeE (runW T k0 pre (2 + k0) s) (at0 : Int) (partS T (k0 + x)) = E := ⟨_, rfl⟩
        rw [hEx] at HW
        gi_wp2_with (fail)
        refine wpIn_mono (Q := fun e a W' => e = .normal ∧ a = { tmps := List.toArray (.pointer (some ⟨b, 0, none⟩) :: .slice lo L.length lc :: .pointer (some ⟨gs, 0, none⟩) :: undef :: .pointer (some ⟨gr, 0, none⟩) :: .pointer (some ⟨ga, 0, none⟩) :: .slice a2 nx c2 :: .int .i64 0 :: undef :: u9 :: .slice (some ⟨g, 128 * x, none⟩) q q :: .int .i64 (Ex : Int) :: .pointer (some ⟨b, 0, none⟩) :: .pointer (some ⟨b, 0, none⟩) :: .pointer (some ⟨b, 1, none⟩) :: .pointer (some ⟨b, 2, none⟩) :: .int .i64 (sl : Int) :: .int .i64 (k0 : Int) :: .int .i64 (2 + (k0 : Int)) :: .tuple #[.slice ao xl cap, .int .i64 0] :: .pointer (some ⟨b, 0, none⟩) :: .int .i64 (2 + (k0 : Int)) :: .tuple #[.slice ao xl cap, .int .i64 0] :: .slice ao xl cap :: .int .i64 0 :: .int .i64 0 :: .bool false :: undef :: .slice lo L.length lc :: .int .i64 (L.length : Int) :: .int .i64 (L.length : Int) :: .bool false :: u32 :: u33 :: u34 :: u35 :: u36 :: u37 :: u38 :: .slice a2 nx c2 :: .func (.func 57) #[] #[.pointer (some ⟨Bs, 0, none⟩), .pointer (some ⟨Bn, 0, none⟩)] :: .slice (some ⟨g, 128 * x, none⟩) q q :: .pointer (some ⟨b, 0, none⟩) :: .pointer (some ⟨b, 0, none⟩) :: .pointer (some ⟨b, 0, none⟩) :: .pointer (some ad) :: .int .i64 (at0 : Int) :: .slice (some ⟨g, 128 * x, none⟩) q q :: .int .i64 (Ex : Int) :: undef :: undef :: undef :: undef :: undef :: []), defers := [] } ∧ ∃ O'', DiskIs O'' (.pointer (some ad)) (writeS (runW T k0 pre (2 + k0) s) (at0 : Int) (partS T (k0 + x))) W' ∧ Turn O' O'' W.drew W') ?_ ?_
        · gi_region_with_o ((refine ⟨trivial, ?_⟩; gi_at_call 40; refine (CallsIn.inRound l (callsIn_wide.2 (HW.out _ hWd))).mono ?_; rintro e w' ⟨rfl, O'', hd2, ht2⟩))
          all_goals exact ⟨rfl, rfl, _, by assumption, by assumption⟩
        rintro e a W1 ⟨rfl, rfl, O'', hd2, ht2⟩
        obtain ⟨e1, e2, e3, e4⟩ := HGG.out
        have hz13 : w1.heap.size ≤ w3.heap.size := HB3.out.size
        obtain ⟨hkf, hblk, hown2, hon2⟩ := round_facts HD.out HO'.out HOI.out hd2 ht2
        have hnoO : ∀ k, w.heap.size ≤ k → ¬ O k := fun k hk h => by have := HLT.out k h; omega
        have hnga : ¬ O'' ga := fun h => by
          rcases hown2 ga h with h | h
          · exact hnoO ga (by omega) h
          · omega
        have hngr : ¬ O'' gr := fun h => by
          rcases hown2 gr h with h | h
          · exact hnoO gr (by omega) h
          · omega
        have hat1 : W1.cell? ⟨ga, 0, none⟩ = some (.int .i64 (at0 : Int)) := (World.cell?_of_block (w := W) (a := ⟨ga, 0, none⟩) (hblk ga (by omega) (hnoO ga (by omega)))).trans hat
        have hfz1 : W1.frozen? ⟨ga, 0, none⟩ = false := (World.frozen?_of_block (w := W) (a := ⟨ga, 0, none⟩) (hblk ga (by omega) (hnoO ga (by omega)))).trans hfz
        have hr1 : W1.cell? ⟨gr, 0, none⟩ = some (.int .i64 0) := (World.cell?_of_block (w := W) (a := ⟨gr, 0, none⟩) (hblk gr (by omega) (hnoO gr (by omega)))).trans r0
        have hrf1 : W1.frozen? ⟨gr, 0, none⟩ = false := (World.frozen?_of_block (w := W) (a := ⟨gr, 0, none⟩) (hblk gr (by omega) (hnoO gr (by omega)))).trans rf
        have hne : ga ≠ gr := by omega
        have HBX := Lib.hid (show ∀ b v, (b = Bs ∨ b = Bn) → W.cell? ⟨b, 0, none⟩ = some v → W1.cell? ⟨b, 0, none⟩ = some v ∧ b ≠ ga from fun b v hb hv => by
          obtain ⟨f1, f2, f3, f4⟩ := HBS.out
          have hb3 : b < w3.heap.size ∧ w1.heap.size ≤ b := by
            rcases hb with rfl | rfl
            · exact ⟨f1, f3⟩
            · exact ⟨f2, f4⟩
          exact ⟨(World.cell?_of_block (w := W) (a := ⟨b, 0, none⟩) (hblk b hb3.1 (hnoO b (by omega)))).trans hv, by omega⟩)
        have hatb : at0 ≤ 3000000 := by
          have f1 := HK0.out
          have f2 := HSL.out
          have f3 := HNX.out.2
          omega
        have HKF := Lib.hid hkf
        have HON2 := Lib.hid hon2
        have HOW2 := Lib.hid hown2
        have HD2 := Lib.hid hd2
        have HNG := Lib.hid hnga
        have HNR := Lib.hid hngr
        clear hkf hblk hown2 hon2 hnoO hd2 ht2 hnga hngr e1 e2 e3 e4 hat hfz s0 r0 rf b0
        by_cases hE0 : Ex = 0
        · subst hE0
          gi_wp2
          refine ⟨HKF.out.trans ((KeepsOthers.setCell _ _ _).from _), fun b v hb hv => ?_, InI.next HOK.out hat0 hEx HD2.out HOW2.out HON2.out HNG.out hat1 hfz1⟩
          obtain ⟨h1, h2⟩ := HBX.out b v hb hv
          exact (World.cell?_of_block (w := W1) (a := ⟨b, 0, none⟩) (Below.heap_setCell _ _ _ _ h2)).trans h1
        · have hEi : ((Ex : Int) == 0) = false := by simp; omega
          gi_wp2
          exact ⟨HKF.out.trans ((KeepsOthers.setCell _ _ _).from _), InX.left HOK.out hat0 hEx hE0 HD2.out HOW2.out HON2.out HNR.out hr1⟩
      case done =>
        rintro D xs W hD rfl ⟨hok, hI⟩ hK
        obtain ⟨O', hd, hO'⟩ := hI.disk
        have hoi := hI.only
        obtain ⟨e1, e2, e3, e4⟩ := HG.out
        have hz13 : w1.heap.size ≤ w3.heap.size := HB3.out.size
        have hcr : Cells gr 30 #[.int .i64 0] W := (hoi.block gr (by omega) (fun h => by
          rcases h with h | h
          · have := HLT.out gr h; omega
          · omega)).trans (HCR.out.below HB3.out)
        have r0 := hcr.at 0
        have rf := hcr.frozen 0
        simp only [List.getElem?_toArray, List.getElem?_cons_zero] at r0
        have hend := hI.fin (gr := gr) (by omega) (fun h => by have := HLT.out gr h; omega) (by rw [r0]; rfl)
        have hK2 := (KeepsOthers.setCell W ⟨gr, 0, none⟩ (.int .i64 0)).same D _ hK rfl
        have HEN := Lib.hid (hend.kept (grownBy_putObj' _ D (.deferred none)) (fun r e => by cases e; exact ⟨hD, _, hK2, rfl⟩))
        obtain ⟨O2, hd2, ht2⟩ := HEN.out.turn (HB1.out.trans (HB3.out.mono HB1.out.size)) (by omega) (by omega)
        have HD2 := Lib.hid hd2
        have HT2 := Lib.hid ht2
        have HK2 := Lib.hid hK2
        clear e1 e2 e3 e4 hend hK2 hd2 ht2
        go_wp2_with fail
        refine ⟨by simp, .inl ⟨_, _, rfl, run_takeDeferred HK2.out, ?_⟩⟩
        obtain ⟨h1, h2⟩ := write_ok HLV.out HF.out HPT.out HFT.out HK0.out HNT.out hok
        exact ⟨_, results_cell1 rfl _ _ ⟨gr, 0, none⟩ _ rfl HEN.out.res Try.isAgg30, 0, _, O2, rfl, HD2.out, HT2.out, h1, runW_len _ _ _ _ _, by rw [HTT.out]; exact h2⟩
      case stop =>
        rintro D c pre W hD ⟨k, hk, hpre⟩ ⟨p, x, E, rfl, hpx, hokp, hE, h0, hend⟩ hK
        have HEN := Lib.hid (hend.kept (grownBy_putObj' _ D (.deferred none)) (fun r e => by cases e; exact ⟨hD, _, hK, rfl⟩))
        obtain ⟨e1, e2, e3, e4⟩ := HG.out
        obtain ⟨O2, hd2, ht2⟩ := HEN.out.turn (HB1.out.trans (HB3.out.mono HB1.out.size)) (by omega) (by omega)
        obtain ⟨h1, h2⟩ := write_stop HLV.out HF.out HPT.out HFT.out HK0.out HNT.out hk hpre hpx hokp hE h0
        have H1 := Lib.hid h1
        have H2 := Lib.hid h2
        have HD2 := Lib.hid hd2
        have HT2 := Lib.hid ht2
        have HK2 := Lib.hid hK
        clear e1 e2 e3 e4 hend hK hd2 ht2 h1 h2 hokp hE hpx hpre
        refine wpIn_wide.2 ?_
        go_wp2_with fail
        refine ⟨by simp, .inl ⟨_, _, rfl, run_takeDeferred HK2.out, ?_⟩⟩
        exact ⟨_, results_cell1 rfl _ _ ⟨gr, 0, none⟩ _ rfl HEN.out.res Try.isAgg30, E, _, O2, rfl, HD2.out, HT2.out, H1.out, runW_len _ _ _ _ _, by rw [HTT.out]; exact H2.out⟩
end Go.Proofs.Ythnagnjcbgcnfaa
