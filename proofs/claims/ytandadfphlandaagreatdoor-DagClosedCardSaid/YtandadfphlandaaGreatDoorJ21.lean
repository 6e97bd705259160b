/-
  Joined: The document's Made: what holds round by round; steps of its regions.
-/
import Derived.Test.YtandadfphlandaaGreatDoorJ05
import Derived.Test.YtandadfphlandaaGreatDoorJ19
import Derived.Test.YtandadfphlandaaGreatDoorJ20
namespace Go.Proofs.YtandadfphlandaaGreatDoor
open Go.RowKit Go.BigFrame
theorem RefAt.lt {X : Nat → Prop} {gs : Nat} {vo vw vn vq : Value} {s : DagN} {w : World} (h : RefAt X gs vo vw vn vq s w) {b : Nat} (hb : RefX gs vo vw vn vq b) : b < w.heap.size := h.l.lt hb
theorem RefAt.monoX {X Y : Nat → Prop} {gs : Nat} {vo vw vn vq : Value} {s : DagN} {w : World} (h : RefAt X gs vo vw vn vq s w) (k : ∀ b, Y b → X b) (hY : ∀ b, RefX gs vo vw vn vq b → Y b) : RefAt Y gs vo vw vn vq s w :=
  ⟨h.cells, h.ops.mono k (Nat.le_refl _), h.wait.mono k (Nat.le_refl _), h.names, h.waits, hY, h.apart, h.apartN⟩
theorem RefAt.only {X O : Nat → Prop} {gs : Nat} {vo vw vn vq : Value} {s : DagN} {w w' : World} (h : RefAt X gs vo vw vn vq s w) (k : Only O w w') (hO : ∀ b, O b → X b) (hn : ∀ b, RefX gs vo vw vn vq b → ¬ O b) : RefAt X gs vo vw vn vq s w' :=
  (h.l.only k hO hn).at
structure MkAt (W w : World) (X : Nat → Prop) (gs : Nat) (vo vw vn vq : Value) (s : DagN) (vt : Value) (L : List OpN) (k : Nat) (wr : World) : Prop where
  ref : RefAt X gs vo vw vn vq s wr
  tame : Tame s
  cnt : s.ops.length + s.wait.length ≤ k
  own : OwnX X w.heap.size 38 vt L wr
  off : ∀ b, vt.ownBlock = some b → ¬ RefX gs vo vw vn vq b
  mine : ∀ b, vt.ownBlock = some b → X b
  fit : ∀ x ∈ L, x.Fit
  len : L.length ≤ k
  bel : Below w.heap.size w wr
  low : ∀ b, RefX gs vo vw vn vq b → w.heap.size ≤ b
  lo : ∀ b, W.heap.size ≤ b → b < w.heap.size → X b
  hi : ∀ b, wr.heap.size ≤ b → X b
def PaAt (W w : World) (gs : Nat) (vo vw vn vq vt : Value) (pa : Option Addr) (P : List (List Nat)) : Prop :=
  ∀ a, pa = some a → P ≠ [] → ¬ RefX gs vo vw vn vq a.block ∧ vt.ownBlock ≠ some a.block ∧ (a.block < W.heap.size ∨ w.heap.size ≤ a.block)
section
variable {W w : World} {X : Nat → Prop} {gs : Nat} {vo vw vn vq : Value} {s : DagN} {vt : Value} {L : List OpN} {k : Nat} {wr w' : World} {pa : Option Addr} {x : OpN} {P : List (List Nat)}
theorem MkAt.below (h : MkAt W w X gs vo vw vn vq s vt L k wr) (b : Below wr.heap.size wr w') : MkAt W w X gs vo vw vn vq s vt L k w' :=
  ⟨h.ref.below b, h.tame, h.cnt, h.own.below b, h.off, h.mine, h.fit, h.len, h.bel.trans (b.mono h.bel.size), h.low, h.lo, fun c hc => h.hi c (Nat.le_trans b.size hc)⟩
theorem MkAt.more (h : MkAt W w X gs vo vw vn vq s vt L k wr) {m : Nat} (hm : k ≤ m) : MkAt W w X gs vo vw vn vq s vt L m wr :=
  ⟨h.ref, h.tame, Nat.le_trans h.cnt hm, h.own, h.off, h.mine, h.fit, Nat.le_trans h.len hm, h.bel, h.low, h.lo, h.hi⟩
theorem MkAt.paOld (h : MkAt W w X gs vo vw vn vq s vt L k wr) (hw : W.heap.size ≤ w.heap.size) (hp : ∀ a, pa = some a → P ≠ [] → a.block < W.heap.size) : PaAt W w gs vo vw vn vq vt pa P := fun a ha h0 => by
  have h1 := hp a ha h0
  refine ⟨fun e => ?_, fun e => ?_, .inl h1⟩
  · have := h.low _ e
    omega
  · have := (h.own.lt e).1
    omega
theorem MkAt.paNew (h : MkAt W w X gs vo vw vn vq s vt L k wr) (hp : ∀ a, pa = some a → wr.heap.size ≤ a.block) : PaAt W w gs vo vw vn vq vt pa P := fun a ha _ => by
  have h1 := hp a ha
  refine ⟨fun e => ?_, fun e => ?_, .inr (Nat.le_trans h.bel.size h1)⟩
  · have := h.ref.lt e
    omega
  · have := (h.own.lt e).2
    omega
theorem MkAt.less (h : MkAt W w X gs vo vw vn vq s vt L k wr) (hp : PaAt W w gs vo vw vn vq vt pa P) (hi : IAt pa P wr) :
    ∃ Y, MkAt W w Y gs vo vw vn vq s vt L k wr ∧ OffX Y pa P ∧ ∀ b, Y b → X b := by
  refine ⟨fun b => X b ∧ ∀ a, pa = some a → P ≠ [] → b ≠ a.block, ?_, fun a ha h0 hy => hy.2 a ha h0 rfl, fun b hb => hb.1⟩
  refine ⟨h.ref.monoX (fun b hb => hb.1) (fun b hb => ⟨h.ref.mine b hb, fun a ha h0 e => (hp a ha h0).1 (e ▸ hb)⟩), h.tame, h.cnt, h.own.mono (fun b hb => hb.1) (Nat.le_refl _), h.off, fun b hb => ⟨h.mine b hb, fun a ha h0 e => (hp a ha h0).2.1 (e ▸ hb)⟩, h.fit, h.len, h.bel, h.low,
    fun b h1 h2 => ⟨h.lo b h1 h2, fun a ha h0 e => ?_⟩, fun b hb => ⟨h.hi b hb, fun a ha h0 e => ?_⟩⟩
  · have := (hp a ha h0).2.2
    omega
  · have := hi.lt h0 ha
    omega
theorem MkAt.take (h : MkAt W w X gs vo vw vn vq s vt L k wr) {e : Ending} (ht : TakePost X gs wr.heap.size (RefX gs vo vw vn vq) wr (takeN s x) e w') :
    ∃ v vo' vw' vn' vq', e = .returned (.tuple #[v, .int .i64 (takeN s x).2.1]) ∧ OwnI wr.heap.size 25 v (takeN s x).1 w' ∧ MkAt W w X gs vo' vw' vn' vq' (takeN s x).2.2 vt L (k + 1) w' ∧ Turn (RefX gs vo vw vn vq) (RefX gs vo' vw' vn' vq') wr w' := by
  obtain ⟨v, vo', vw', vn', vq', he, hv, hr, htu, htm⟩ := ht
  refine ⟨v, vo', vw', vn', vq', he, hv, ⟨hr, htm, ?_, h.own.only htu.only h.ref.mine (fun g hg => h.off g hg), fun b hb e => ?_, h.mine, h.fit, Nat.le_succ_of_le h.len, Only.toBelow h.bel htu.only h.low h.bel.size, fun b hb => ?_, h.lo, fun b hb => h.hi b (Nat.le_trans htu.only.size hb)⟩, htu⟩
  · have := (take_shallow h.tame.shallow x).2
    have := h.cnt
    omega
  · rcases htu.own b e with e | e
    · exact h.off b hb e
    · have := (h.own.lt hb).2
      omega
  · rcases htu.own b hb with e | e
    · exact h.low b e
    · exact Nat.le_trans h.bel.size e
theorem MkAt.push (h : MkAt W w X gs vo vw vn vq s vt L k wr) (hx : x.Fit) (hlen : L.length + 1 ≤ k) {v' : Value} (hown : OwnX (fun b => X b ∨ wr.heap.size ≤ b) w.heap.size 38 v' (L ++ [x]) w') (hg : wr.grownBy w' vt.ownBlock) (hv : v'.ownBlock = vt.ownBlock ∨ v'.ownBlock = some wr.heap.size) :
    MkAt W w X gs vo vw vn vq s v' (L ++ [x]) k w' := by
  have ho : Only (fun b => vt.ownBlock = some b) wr w' := (Only.refl _ wr).grown hg (fun b hb => .inl hb)
  have new : ∀ b, v'.ownBlock = some b → vt.ownBlock = some b ∨ b = wr.heap.size := fun b hb => by
    rcases hv with e | e
    · exact .inl (e ▸ hb)
    · rw [e] at hb
      injection hb with hb
      exact .inr hb.symm
  refine ⟨h.ref.only ho h.mine (fun b hb e => h.off b e hb), h.tame, h.cnt, hown.mono (fun b hb => .inl hb) (Nat.le_refl _), fun b hb e => ?_, fun b hb => ?_, fun y hy => ?_, by rw [List.length_append]; exact hlen, Only.toBelow h.bel ho (fun b hb => (h.own.lt hb).1) h.bel.size, h.low, h.lo, fun b hb => h.hi b (Nat.le_trans ho.size hb)⟩
  · rcases new b hb with h1 | h1
    · exact h.off b h1 e
    · have := h.ref.lt e
      omega
  · rcases new b hb with h1 | h1
    · exact h.mine b h1
    · exact h.hi b (by omega)
  · rcases List.mem_append.1 hy with hy | hy
    · exact h.fit y hy
    · rw [List.mem_singleton.1 hy]
      exact hx
end
def Is (q : Nat → Bool) (V : Nat → Value) (k : Nat) (R : Value → World → Prop) (w : World) : Prop := q k = true → R (V k) w
theorem Is.none {V : Nat → Value} {k : Nat} {R : Value → World → Prop} {w : World} : Is (fun _ => false) V k R w := fun h => by cases h
theorem Is.ne {q : Nat → Bool} {V : Nat → Value} {k n : Nat} {v : Value} {R : Value → World → Prop} {w w' : World} (h : Is q V k R w) (hk : k ≠ n) (hR : ∀ v, R v w → R v w') : Is (fun m => q m || m == n) (upd V n v) k R w' := fun hq => by
  have e : (k == n) = false := beq_false_of_ne hk
  rw [upd_ne V v hk]
  exact hR _ (h (by simpa [e] using hq))
theorem Is.same {q : Nat → Bool} {V : Nat → Value} {k : Nat} {v : Value} {R : Value → World → Prop} {w : World} (h : R v w) : Is (fun m => q m || m == k) (upd V k v) k R w := fun _ => by
  rw [upd_same]
  exact h
def NameR (B : Nat) (P : List (List Nat)) (F : Option Addr → Nat → Value) (v : Value) (w : World) : Prop := ∃ ah ch, v = F ah ch ∧ IAt ah P w ∧ ∀ a, ah = some a → B ≤ a.block
theorem NameR.below {B : Nat} {P : List (List Nat)} {F : Option Addr → Nat → Value} {v : Value} {w w' : World} (h : NameR B P F v w) (k : Below w.heap.size w w') : NameR B P F v w' := by
  obtain ⟨ah, ch, h1, h2, h3⟩ := h
  exact ⟨ah, ch, h1, h2.below k, h3⟩
structure PutP (s : Nat → Bool) (V : Nat → Value) (B i j i' : Nat) (t : TypeId) (c0 c1 : Array Value) (w : World) : Prop where
  a : PutC s V B i j t c0 c1 w
  b : NewC s V B i' t c0 w
  ne : s i = true → s i' = true → V i ≠ V i'
  late : s j = true → s i = true
section
variable {s : Nat → Bool} {V : Nat → Value} {B i j i' m g : Nat} {t : TypeId} {c0 c1 : Array Value} {w w' : World} {u : Value}
theorem seen_or {n : Nat} (h : (s n || n == m) = true) (hne : n ≠ m) : s n = true := by
  rw [beq_false_of_ne hne, Bool.or_false] at h
  exact h
theorem PutP.none : PutP (fun _ => false) V B i j i' t c0 c1 w := ⟨PutC.none, NewC.none, (fun h => by cases h), (fun h => by cases h)⟩
theorem PutP.keep (h : PutP s V B i j i' t c0 c1 w) (h1 : i ≠ m) (h2 : j ≠ m) (h3 : i' ≠ m) (hb : Below w.heap.size w w') : PutP (fun n => s n || n == m) (upd V m u) B i j i' t c0 c1 w' :=
  ⟨h.a.ne h1 h2 hb, h.b.ne h3 hb, fun e1 e2 => by
    rw [upd_ne V u h1, upd_ne V u h3]
    exact h.ne (seen_or e1 h1) (seen_or e2 h3), fun e => by
    show (s i || i == m) = true
    rw [h.late (seen_or e h2)]
    rfl⟩
theorem PutP.madeA (h : PutP s V B i j i' t c0 c1 w) (hB : B ≤ w.heap.size) (hu : s i = false) (h2 : j ≠ i) (h3 : i' ≠ i) : PutP (fun n => s n || n == i) (upd V i (.pointer (some ⟨w.heap.size, 0, Option.none⟩))) B i j i' t c0 c1 (w.alloc (.cells c0 t)) := by
  have hj : s j = false := by
    cases e : s j with
    | false => rfl
    | true => rw [h.late e] at hu; cases hu
  refine ⟨PutC.made hB hj h2, h.b.ne h3 ((Below.refl _ _).alloc (Nat.le_refl _) _), fun _ e2 => ?_, fun e => ?_⟩
  · rw [upd_same, upd_ne V _ h3]
    obtain ⟨g, hV, _, hc⟩ := h.b (seen_or e2 h3)
    rw [hV]
    have := hc.lt
    intro e
    injection e with e
    injection e with e
    injection e with e
    omega
  · show (s i || i == i) = true
    simp
theorem PutP.madeB (h : PutP s V B i j i' t c0 c1 w) (hB : B ≤ w.heap.size) (h1 : i ≠ i') (h2 : j ≠ i') : PutP (fun n => s n || n == i') (upd V i' (.pointer (some ⟨w.heap.size, 0, Option.none⟩))) B i j i' t c0 c1 (w.alloc (.cells c0 t)) := by
  refine ⟨h.a.ne h1 h2 ((Below.refl _ _).alloc (Nat.le_refl _) _), NewC.same hB, fun e1 _ => ?_, fun e => ?_⟩
  · rw [upd_same, upd_ne V _ h1]
    obtain ⟨g, hV, _, hc⟩ := h.a (seen_or e1 h1)
    rw [hV]
    have := hc.lt
    intro e
    injection e with e
    injection e with e
    injection e with e
    omega
  · show (s i || i == i') = true
    rw [h.late (seen_or e h2)]
    rfl
theorem PutP.stored (h : PutP s V B i j i' t c0 c1 w) (hi : s i = true) (hV : V i = .pointer (some ⟨g, 0, Option.none⟩)) (hB : B ≤ g) (h1 : i ≠ j) (h3 : i' ≠ j) (hc : Cells g t c1 w') (hbt : But g w w') : PutP (fun n => s n || n == j) (upd V j u) B i j i' t c0 c1 w' := by
  refine ⟨PutC.stored hV hB h1 hc, fun e => ?_, fun e1 e2 => ?_, fun _ => ?_⟩
  · obtain ⟨g', hV', hg', hc'⟩ := h.b (seen_or e h3)
    refine ⟨g', by rw [upd_ne V _ h3]; exact hV', hg', (hbt.block g' hc'.lt (fun e' => ?_)).trans hc'⟩
    have hn := h.ne hi (seen_or e h3)
    rw [hV, hV', e'] at hn
    exact hn rfl
  · rw [upd_ne V u h1, upd_ne V u h3]
    exact h.ne (seen_or e1 h1) (seen_or e2 h3)
  · show (s i || i == j) = true
    rw [hi]
    rfl
end
section
variable {o : Oper} {a : Act} {w : World} {K : Act → World → Prop} {Q : Exit → Act → World → Prop}
theorem op_len_ops (x : Operand) (ho : o.op = .call { callee := .builtin .len, args := #[x], argTypes := #[29] }) (ao : Option Addr) (n c : Nat) (hx : a.eval x = .slice ao n c)
    (h : K (a.put o.dst (.int .i64 (n : Int))) w) : OpWp Tryz.prog o a w K Q := by
  have hl : ∀ ty, (Builtin.len_ #[29] ty #[.slice ao n c]).run Tryz.prog w = .ok (.int .i64 (n : Int)) w := fun ty => by
    go_simp
  refine ⟨?_⟩
  unfold Oper.wp execOp
  simp only [ho, resolve, invoke, builtin, Sem.run_bind, Sem.run_pure, Result.andThen_ok, List.map_toArray, List.map_cons, List.map_nil, hx, hl]
  exact h
end
theorem idx_chain (p : Int) {n : Nat} (h0 : 0 < n) (hn : n ≤ 1000000) : ∃ (A R : Int) (q : Nat), q < n ∧ (∀ w, (convert 3 39 (.int .i64 p)).run Tryz.prog w = .ok (.int .u64 A) w) ∧ (∀ w, (convert 3 39 (.int .i64 (n : Int))).run Tryz.prog w = .ok (.int .u64 (n : Int)) w) ∧
    (∀ w, (binOp .rem 39 (.int .u64 A) (.int .u64 (n : Int))).run Tryz.prog w = .ok (.int .u64 R) w) ∧ ∀ w, (convert 39 3 (.int .u64 R)).run Tryz.prog w = .ok (.int .i64 (q : Int)) w := by
  have e : IntKind.u64.wrap p = p % 18446744073709551616 := by simp [IntKind.wrap, IntKind.bits, IntKind.signed]
  have en : IntKind.u64.wrap (n : Int) = (n : Int) := by
    simp [IntKind.wrap, IntKind.bits, IntKind.signed]
    omega
  have k0 : 0 ≤ IntKind.u64.wrap p := by rw [e]; omega
  have c1 : ∀ w, (convert 3 39 (.int .i64 p)).run Tryz.prog w = .ok (.int .u64 (IntKind.u64.wrap p)) w := fun w => by go_simp
  generalize IntKind.u64.wrap p = u at c1 k0
  have h1 : 0 ≤ u % (n : Int) := Int.emod_nonneg _ (by omega)
  have h2 : u % (n : Int) < (n : Int) := Int.emod_lt_of_pos _ (by omega)
  have c2 : ∀ w, (convert 3 39 (.int .i64 (n : Int))).run Tryz.prog w = .ok (.int .u64 (n : Int)) w := fun w => by
    rw [← en]
    go_simp
  have c3 : ∀ w, (binOp .rem 39 (.int .u64 u) (.int .u64 (n : Int))).run Tryz.prog w = .ok (.int .u64 (u % (n : Int))) w := fun w => by
    rw [← Int.tmod_eq_emod_of_nonneg k0]
    go_simp
    omega
  generalize u % (n : Int) = r at c3 h1 h2
  refine ⟨u, r, r.toNat, by omega, c1, c2, c3, fun w => ?_⟩
  have er : IntKind.i64.wrap r = (r.toNat : Int) := by
    simp [IntKind.wrap, IntKind.bits, IntKind.signed]
    omega
  rw [← er]
  go_simp
def makeV (m : MakeN) (pa : Option Addr) (pc : Nat) : Array Value := (makeL m pa pc).toArray
theorem makeL_one (m : MakeN) (pa : Option Addr) (pc : Nat) : ∀ u ∈ makeL m pa pc, u.oneCell' = true := fun u hu => by
  simp only [makeL, List.mem_append, List.mem_cons, List.not_mem_nil, or_false] at hu
  rcases hu with ((((rfl | rfl) | h) | rfl | rfl | rfl) | h)
  · rfl
  · rfl
  · exact draftL_one _ u h
  · rfl
  · rfl
  · rfl
  · exact opL_one _ _ _ u h
theorem makeV_all (m : MakeN) (pa : Option Addr) (pc : Nat) : (makeV m pa pc).all (·.oneCell') = true := by
  rw [makeV, List.all_toArray]
  exact List.all_eq_true.2 (makeL_one m pa pc)
theorem makeV_size {m : MakeN} (h : m.In) (pa : Option Addr) (pc : Nat) : (makeV m pa pc).size = 78 := makeL_len h pa pc
structure MakeAt (g : Nat) (m : MakeN) (pa : Option Addr) (pc : Nat) (w : World) : Prop where
  kind : w.cell? ⟨g, 0, none⟩ = some (.int .i64 m.kind)
  author : w.cell? ⟨g, 1, none⟩ = some (.int .i64 m.author)
  d : w.rangeAt g 2 (draftL m.d)
  pos : w.cell? ⟨g, 37, none⟩ = some (.int .i64 m.pos)
  other : w.cell? ⟨g, 38, none⟩ = some (.int .i64 m.other)
  deep : w.cell? ⟨g, 39, none⟩ = some (.int .i64 m.deep)
  op : w.rangeAt g 40 (opL m.op pa pc)
theorem make_cells {g : Nat} {t : TypeId} {m : MakeN} {pa : Option Addr} {pc : Nat} {w : World} (hm : m.In) (h : Cells g t (makeV m pa pc) w) : MakeAt g m pa pc w := by
  have hl := draftL_len hm.d.ref.1
  have e0 : ∀ j, w.cell? ⟨g, j, none⟩ = (makeL m pa pc)[j]? := fun j => by rw [h.at, makeV, List.getElem?_toArray]
  have e37 : ∀ j, (makeL m pa pc)[37 + j]? = ([.int .i64 m.pos, .int .i64 m.other, .int .i64 m.deep] ++ opL m.op pa pc)[j]? := fun j => by
    rw [makeL, List.append_assoc, List.getElem?_append_right (by simp [hl])]
    congr 1
    simp [hl]
  refine ⟨by rw [e0]; rfl, by rw [e0]; rfl, fun j v hj => ?_, by rw [e0, e37 0]; rfl, by rw [e0, e37 1]; rfl, by rw [e0, e37 2]; rfl, fun j v hj => ?_⟩
  · have hj2 := (List.getElem?_eq_some_iff.1 hj).1
    rw [e0, makeL, List.append_assoc, List.getElem?_append_left (by simp; omega), List.getElem?_append_right (by simp)]
    rw [show 2 + j - ([Value.int .i64 m.kind, Value.int .i64 m.author] : List Value).length = j by simp]
    exact hj
  · rw [show 40 + j = 37 + (3 + j) by omega, e0, e37, List.getElem?_append_right (by simp)]
    rw [show 3 + j - ([Value.int .i64 m.pos, Value.int .i64 m.other, Value.int .i64 m.deep] : List Value).length = j by simp]
    exact hj
theorem size_make {m : MakeN} (h : m.In) (pa : Option Addr) (pc : Nat) : (Tryz.prog.info? 59).map (·.size) = some (makeV m pa pc).size := by
  rw [makeV_size h]
  kernel_rfl
theorem wpList_lit_opX {ops : Array Oper} {rest : List Oper} {o : Oper} {a : Act} {w : World} {Q : Exit → Act → World → Prop} (hg : o.guard = none) (z : Operand) (ho : o.op = .buildSlice 29 1 #[(0, z)]) (X : Nat → Prop) (y : OpN) (pa : Option Addr) (pc : Nat) (hy : y.d.ref.length = 32) (hz : a.eval z = .agg (opV y pa pc)) (hia : IAt pa y.preds w) (hoff : OffX X pa y.preds)
    (h : ∀ w', Hid (Below w.heap.size w w') → Hid (OpsX X (some ⟨w.heap.size, 0, none⟩) [y] w') → wpList Tryz.prog ops Q rest (a.put o.dst (.slice (some ⟨w.heap.size, 0, none⟩) 1 1)) w') : wpList Tryz.prog ops Q (o :: rest) a w :=
  wpList_plain hg fun _ hK => (op_lit_opX z ho X y pa pc hy hz hia hoff (fun w' h1 h2 => hK _ _ (h w' (Lib.hid h1) (Lib.hid h2)))).out
theorem MkAt.done {W w : World} {X : Nat → Prop} {gs : Nat} {vo vw vn vq : Value} {s : DagN} {vt : Value} {L : List OpN} {k : Nat} {wr : World} (h : MkAt W w X gs vo vw vn vq s vt L k wr) (hk : k ≤ 30) :
    ∃ v L, Ending.returned vt = .returned v ∧ OwnX (fun b => W.heap.size ≤ b ∧ (b < w.heap.size ∨ wr.heap.size ≤ b)) w.heap.size 38 v L wr ∧ (∀ x ∈ L, x.Fit) ∧ L.length ≤ 30 ∧ Below w.heap.size w wr :=
  ⟨vt, L, rfl, h.own.mono (fun b hb => hb.2.elim (h.lo b hb.1) (h.hi b)) (Nat.le_refl _), h.fit, Nat.le_trans h.len hk, h.bel⟩
theorem next_cases (s : DagN) (A : Int) (d : DraftN) : (∃ c : Int, nextN' s A d = (none, c) ∧ c ≠ 0) ∨ nextN' s A d = (some ⟨d, A, maxD s.ops (headsN s) + 1, headsN s⟩, 0) := by
  unfold nextN'
  split
  · exact .inl ⟨1, rfl, by decide⟩
  · split
    · exact .inl ⟨3, rfl, by decide⟩
    · exact .inr rfl
theorem next_in {s : DagN} {A : Int} {d : DraftN} (hA : I64 A) (hd : d.In) (hs : s.Shallow) (hm : s.ops.length ≤ 1000) : OpN.In ⟨d, A, maxD s.ops (headsN s) + 1, headsN s⟩ := by
  have h1 := maxD_le hs (by omega) (headsN s)
  have h2 := headsN_len s
  exact ⟨hd, hA.1, hA.2, by show _ ≤ maxD s.ops (headsN s) + 1; omega, by show maxD s.ops (headsN s) + 1 ≤ _; omega, fun p hp => names_ok p (headsN_mem hp), Nat.le_trans h2 (by omega)⟩
theorem MkAt.nextable {W w : World} {X : Nat → Prop} {gs : Nat} {vo vw vn vq : Value} {s : DagN} {vt : Value} {L : List OpN} {k : Nat} {wr : World} (h : MkAt W w X gs vo vw vn vq s vt L k wr) : ∀ x ∈ s.ops, x.d.ref.length = 32 ∧ Ids x.preds ∧ x.preds.length ≤ 1000000 :=
  fun x hx => ⟨(h.tame.ops x hx).d.ref.1, (h.tame.ops x hx).preds, by have := (h.tame.ops x hx).many; omega⟩
theorem field_mk1 (g : Nat) (w : World) : (Instr.fieldAt 59 (.pointer (some ⟨g, 0, none⟩)) 1).run Tryz.prog w = .ok (.pointer (some ⟨g, 1, none⟩)) w := by go_simp
theorem field_mk2 (g : Nat) (w : World) : (Instr.fieldAt 59 (.pointer (some ⟨g, 0, none⟩)) 2).run Tryz.prog w = .ok (.pointer (some ⟨g, 2, none⟩)) w := by go_simp
theorem field_mk3 (g : Nat) (w : World) : (Instr.fieldAt 59 (.pointer (some ⟨g, 0, none⟩)) 3).run Tryz.prog w = .ok (.pointer (some ⟨g, 37, none⟩)) w := by go_simp
theorem field_mk4 (g : Nat) (w : World) : (Instr.fieldAt 59 (.pointer (some ⟨g, 0, none⟩)) 4).run Tryz.prog w = .ok (.pointer (some ⟨g, 38, none⟩)) w := by go_simp
theorem field_op3 (g : Nat) (w : World) : (Instr.fieldAt 38 (.pointer (some ⟨g, 0, none⟩)) 3).run Tryz.prog w = .ok (.pointer (some ⟨g, 37, none⟩)) w := by go_simp
theorem op_lit_id2 {o : Oper} {a : Act} {w : World} {K : Act → World → Prop} {Q : Exit → Act → World → Prop} (z1 z2 : Operand) (ho : o.op = .buildSlice 34 2 #[(0, z1), (1, z2)]) (x y : List Nat) (hx : x.length = 32) (hy : y.length = 32) (e1 : a.eval z1 = .agg (nums .u8 x).toArray) (e2 : a.eval z2 = .agg (nums .u8 y).toArray)
    (h : ∀ w', Below w.heap.size w w' → IAt (some ⟨w.heap.size, 0, none⟩) [x, y] w' → K (a.put o.dst (.slice (some ⟨w.heap.size, 0, none⟩) 2 2)) w') : OpWp Tryz.prog o a w K Q := by
  obtain ⟨ie, hi, hz0, hz1, _⟩ := info_parts Tryz.infoI32
  have hr : (Instr.buildSlice 34 2 #[(0, .agg (nums .u8 x).toArray), (1, .agg (nums .u8 y).toArray)]).run Tryz.prog w = .ok (.slice (some ⟨w.heap.size, 0, none⟩) 2 2) (w.alloc (.cells (nums .u8 x ++ nums .u8 y).toArray 25)) := by
    refine run_buildSlice (P := Tryz.prog) w 34 25 2 _ (nums .u8 x ++ nums .u8 y).toArray ie (.agg (nums .u8 (List.replicate 32 0)).toArray) Tryz.underlying34 hi hz0 (by rw [hz1]; decide) (by rw [hz1]; decide) ?_
    rw [hz1]
    have h1 := Great.fill_whole (s := 32) (by decide) [Value.agg (nums .u8 x).toArray, .agg (nums .u8 y).toArray] ((Array.range (2 * 32)).map ((Value.agg (nums .u8 (List.replicate 32 0)).toArray).cells[· % (Value.agg (nums .u8 (List.replicate 32 0)).toArray).cells.size]!))
      (fun v hv => by
        rcases List.mem_cons.1 hv with rfl | hv
        · show (nums .u8 x).toArray.size = 32
          rw [List.size_toArray, nums_len, hx]
        · obtain rfl := List.mem_singleton.1 hv
          show (nums .u8 y).toArray.size = 32
          rw [List.size_toArray, nums_len, hy]) (by simp)
    have q1 : (#[(0, Value.agg (nums .u8 x).toArray), (1, .agg (nums .u8 y).toArray)] : Array (Nat × Value)).toList = ([Value.agg (nums .u8 x).toArray, .agg (nums .u8 y).toArray].zipIdx 0).map fun x => (x.2, x.1) := by simp [List.zipIdx_cons]
    have q2 : ([Value.agg (nums .u8 x).toArray, .agg (nums .u8 y).toArray].flatMap fun v => v.cells.toList).toArray = (nums .u8 x ++ nums .u8 y).toArray := by
      rw [List.flatMap_cons, List.flatMap_cons, List.flatMap_nil, List.append_nil]
      rfl
    rw [q1, h1, q2]
  have hb : Below w.heap.size w (w.alloc (.cells (nums .u8 x ++ nums .u8 y).toArray 25)) := (Below.refl _ _).alloc (Nat.le_refl _) _
  have hc : ∀ j, (w.alloc (.cells (nums .u8 x ++ nums .u8 y).toArray 25)).cell? ⟨w.heap.size, j, none⟩ = (nums .u8 x ++ nums .u8 y)[j]? := fun j => by
    have e := Lib.cell_of_heap (heap_alloc_new w (.cells (nums .u8 x ++ nums .u8 y).toArray 25)) j
    rw [List.getElem?_toArray] at e
    exact e
  have hk := h _ hb (.inr ⟨w.heap.size, 0, rfl, by rw [World.size_alloc]; exact Nat.lt_succ_self _, fun i hi j v hj => ?_⟩)
  · refine ⟨?_⟩
    have q : ((#[(0, z1), (1, z2)] : Array (Nat × Operand)).map fun (i, x) => (i, a.eval x)) = #[(0, .agg (nums .u8 x).toArray), (1, .agg (nums .u8 y).toArray)] := by simp [e1, e2]
    unfold Oper.wp execOp
    simp only [ho, q, Sem.run_bind, Sem.run_pure, hr, Result.andThen_ok]
    exact hk
  · have hjl := (List.getElem?_eq_some_iff.1 hj).1
    rw [hc]
    match i, hi with
    | 0, _ =>
      have hj0 : (nums .u8 x)[j]? = some v := hj
      rw [show 0 + 32 * 0 + j = j by omega, List.getElem?_append_left (by
        have := (List.getElem?_eq_some_iff.1 hj0).1
        exact this)]
      exact hj0
    | 1, _ =>
      have hj1 : (nums .u8 y)[j]? = some v := hj
      rw [List.getElem?_append_right (by rw [nums_len, hx]; omega), nums_len, hx, show 0 + 32 * 1 + j - 32 = j by omega]
      exact hj1
theorem wrap64_in (i : Int) : I64 (wrap64 i) := by
  unfold wrap64 I64
  omega
end Go.Proofs.YtandadfphlandaaGreatDoor
