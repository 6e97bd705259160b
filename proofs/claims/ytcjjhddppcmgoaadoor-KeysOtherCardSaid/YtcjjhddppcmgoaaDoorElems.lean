/-
  Rows of elements of sixteen bytes: what lies there, what is pushed, stored and read; a slice of arrays that came in.
-/
import Derived.Test.YtcjjhddppcmgoaaDoorRegion
import Derived.Deep.MidRow
import Derived.Deep.Slices
import Derived.OpenShut
import Derived.Great.BuildSlice
namespace Go.Proofs.YtcjjhddppcmgoaaDoor
open Go.RowKit Go.ChangeShapes Go.WideShapes

/-- The elements of a list: sixteen bytes each. -/
def Elems (L : List (List Nat)) : Prop := ∀ x ∈ L, x.length = 16 ∧ ∀ y ∈ x, y < 256
theorem Elems.nil : Elems [] := fun x hx => by cases hx
theorem Elems.getD {L : List (List Nat)} (h : Elems L) {i : Nat} (hi : i < L.length) : (L.getD i []).length = 16 ∧ ∀ y ∈ L.getD i [], y < 256 := by
  rw [List.getD_eq_getElem?_getD, List.getElem?_eq_getElem hi]
  exact h _ (List.getElem_mem hi)
theorem Elems.append {L M : List (List Nat)} (h : Elems L) (k : Elems M) : Elems (L ++ M) := fun x hx => (List.mem_append.1 hx).elim (h x) (k x)
theorem Elems.one {x : List Nat} (h : x.length = 16) (k : ∀ y ∈ x, y < 256) : Elems [x] := fun z hz => by
  obtain rfl := List.mem_singleton.1 hz
  exact ⟨h, k⟩
theorem Elems.take {L : List (List Nat)} (h : Elems L) (n : Nat) : Elems (L.take n) := fun x hx => h x (List.mem_of_mem_take hx)
theorem Elems.drop {L : List (List Nat)} (h : Elems L) (n : Nat) : Elems (L.drop n) := fun x hx => h x (List.mem_of_mem_drop hx)

/-- Elements lie in a row from an address on. -/
def EAt (ao : Option Addr) (L : List (List Nat)) (w : World) : Prop :=
  L = [] ∨ ∃ b o, ao = some ⟨b, o, none⟩ ∧ b < w.heap.size ∧ ∀ i, i < L.length → w.rangeAt b (o + 16 * i) (nums .u8 (L.getD i []))
theorem EAt.below {ao : Option Addr} {L : List (List Nat)} {w w' : World} (h : EAt ao L w) (hb : Below w.heap.size w w') : EAt ao L w' := by
  rcases h with h | ⟨b, o, h1, h2, h3⟩
  · exact .inl h
  · exact .inr ⟨b, o, h1, Nat.lt_of_lt_of_le h2 hb.size, fun i hi j v hv => (hb.cell (p := ⟨b, o + 16 * i + j, none⟩) h2).trans (h3 i hi j v hv)⟩
theorem EAt.get {b o : Nat} {L : List (List Nat)} {w : World} (h : EAt (some ⟨b, o, none⟩) L w) {i : Nat} (hi : i < L.length) : w.rangeAt b (o + i * 16) (nums .u8 (L.getD i [])) := by
  rcases h with rfl | ⟨b', o', h1, _, h3⟩
  · cases hi
  · simp only [Option.some.injEq, Addr.mk.injEq] at h1
    obtain ⟨rfl, rfl, _⟩ := h1
    rw [Nat.mul_comm]
    exact h3 i hi
theorem EAt.some {ao : Option Addr} {L : List (List Nat)} {w : World} (h : EAt ao L w) (h0 : 0 < L.length) : ∃ b o, ao = some ⟨b, o, none⟩ ∧ b < w.heap.size := by
  rcases h with rfl | ⟨b, o, h1, h2, _⟩
  · cases h0
  · exact ⟨b, o, h1, h2⟩

/-- Their cells, one behind the other. -/
def flatE (L : List (List Nat)) : List Value := L.flatMap (nums .u8)
theorem flatE_len {L : List (List Nat)} (h : Elems L) : (flatE L).length = L.length * 16 := by
  induction L with
  | nil => rfl
  | cons x L ih =>
    have h1 := (h x (by simp)).1
    have h2 := ih fun y hy => h y (by simp [hy])
    simp only [flatE, List.flatMap_cons, List.length_append, nums_len, List.length_cons] at *
    omega
theorem flatE_append (L M : List (List Nat)) : flatE (L ++ M) = flatE L ++ flatE M := by simp [flatE]
theorem flatE_one (x : List Nat) : flatE [x] = nums .u8 x := by simp [flatE]
theorem flatE_all (L : List (List Nat)) : ∀ u ∈ flatE L, u.oneCell' = true := by
  intro u hu
  simp only [flatE, List.mem_flatMap] at hu
  obtain ⟨x, _, hx⟩ := hu
  exact nums_one .u8 x u hx
theorem flatE_get {L : List (List Nat)} (h : Elems L) : ∀ {i j : Nat}, i < L.length → j < 16 → (flatE L)[16 * i + j]? = (nums .u8 (L.getD i []))[j]? := by
  induction L with
  | nil => intro i j hi _; cases hi
  | cons x L ih =>
    intro i j hi hj
    have h1 := (h x (by simp)).1
    have hx : (nums .u8 x).length = 16 := by rw [nums_len, h1]
    rw [flatE, List.flatMap_cons]
    cases i with
    | zero => rw [Nat.mul_zero, Nat.zero_add, List.getElem?_append_left (by omega)]; rfl
    | succ i =>
      rw [List.getElem?_append_right (by omega), hx, show 16 * (i + 1) + j - 16 = 16 * i + j by omega]
      exact ih (fun y hy => h y (by simp [hy])) (by simpa using hi) hj
/-- A row of elements of the call's own. -/
def OwnE (B : Nat) (e : TypeId) (v : Value) (L : List (List Nat)) (w : World) : Prop := w.ownsRow B e 16 v L.length (flatE L)
theorem OwnE.nil (B : Nat) (e : TypeId) (w : World) : OwnE B e (.slice none 0 0) [] w := World.ownsRow_nil _ _ _ _
theorem OwnE.form {B : Nat} {e : TypeId} {v : Value} {L : List (List Nat)} {w : World} (h : OwnE B e v L w) : ∃ ao cap, v = .slice ao L.length cap := by
  rcases h.2 with ⟨h1, h2⟩ | ⟨g, cap, _, h1, _⟩
  · exact ⟨_, _, by rw [h1, h2]⟩
  · exact ⟨_, _, h1⟩
theorem OwnE.formB {B : Nat} {e : TypeId} {v : Value} {L : List (List Nat)} {w : World} (h : OwnE B e v L w) (h0 : 0 < L.length) : ∃ g cap, v = .slice (some ⟨g, 0, none⟩) L.length cap ∧ B ≤ g ∧ g < w.heap.size := by
  rcases h.2 with ⟨_, h2⟩ | ⟨g, cap, cur, h1, h2, h3, _⟩
  · omega
  · exact ⟨g, cap, h1, h2, lt_of_block h3⟩
theorem OwnE.below {B : Nat} {e : TypeId} {v : Value} {L : List (List Nat)} {w w' : World} (h : OwnE B e v L w) (b : Below w.heap.size w w') : OwnE B e v L w' := by
  refine ⟨h.1, ?_⟩
  rcases h.2 with h2 | ⟨g, cap, cur, h1, h2, h3, h4⟩
  · exact .inl h2
  · exact .inr ⟨g, cap, cur, h1, h2, (b.block g (lt_of_block h3)).trans h3, h4⟩
theorem OwnE.mono {B B' : Nat} {e : TypeId} {v : Value} {L : List (List Nat)} {w : World} (h : OwnE B e v L w) (hB : B' ≤ B) : OwnE B' e v L w := by
  refine ⟨h.1, ?_⟩
  rcases h.2 with h2 | ⟨g, cap, cur, h1, h2, h3⟩
  · exact .inl h2
  · exact .inr ⟨g, cap, cur, h1, Nat.le_trans hB h2, h3⟩
theorem OwnE.alloc {B : Nat} {e : TypeId} {v : Value} {L : List (List Nat)} {w : World} (h : OwnE B e v L w) (o : Obj) : OwnE B e v L (w.alloc o) := World.ownsRow.alloc h o
theorem OwnE.but {B b : Nat} {e : TypeId} {v : Value} {L : List (List Nat)} {w w' : World} (h : OwnE B e v L w) (hb : But b w w') (ap : ∀ g, v.ownBlock = some g → b ≠ g) : OwnE B e v L w' := by
  refine ⟨h.1, ?_⟩
  rcases h.2 with h2 | ⟨g, cap, cur, h1, h2, h3, h4⟩
  · exact .inl h2
  · exact .inr ⟨g, cap, cur, h1, h2, (hb.block g (lt_of_block h3) (fun e => ap g (by rw [h1]; rfl) e.symm)).trans h3, h4⟩
theorem OwnE.at {B : Nat} {e : TypeId} {ao : Option Addr} {n c : Nat} {L : List (List Nat)} {w : World} (h : OwnE B e (.slice ao n c) L w) (hL : Elems L) : EAt ao L w := by
  by_cases h0 : L = []
  · exact .inl h0
  · obtain ⟨g, cap, hv, _, hg⟩ := h.formB (List.length_pos_iff.2 h0)
    obtain rfl : ao = some ⟨g, 0, none⟩ := by injection hv
    refine .inr ⟨g, 0, rfl, hg, fun i hi j v hj => ?_⟩
    have hc := World.ownsRow.cells h (g := g) rfl (16 * i + j) v
    have hj16 : j < 16 := by
      have := (List.getElem?_eq_some_iff.1 hj).1
      rw [nums_len, (hL.getD hi).1] at this
      exact this
    rw [flatE_get hL hi hj16, Addr.add_lit, Nat.zero_add] at hc
    rw [Nat.zero_add]
    exact hc hj

/-- Elements pushed onto a row of the call's own. -/
theorem wpList_append_elems {P : Program} {w : World} {ops : Array Oper} {rest : List Oper} {o : Oper} {a : Act} {Q : Exit → Act → World → Prop} (hgd : o.guard = none) (s x : Operand) (t e : TypeId)
    (ho : o.op = .call { callee := .builtin .append, args := #[s, x], argTypes := #[t, t] })
    (B : Nat) (z : Value) (hzs : z.cells.size = 16) (ht : P.underlying t = some (.slice e)) (hinfo : (P.info? e).map (fun i => (i.zero, i.size, i.bytes)) = some (some z, 16, 16))
    (v : Value) (L M : List (List Nat)) (hM : Elems M) (ad : Addr) (n c : Nat) (hn : n = M.length) (hs : a.eval s = v) (hown : OwnE B e v L w) (hx : a.eval x = .slice (some ad) n c) (hnews : ∀ j u, (flatE M)[j]? = some u → w.cell? (ad.add j) = some u)
    (h63 : L.length + M.length ≤ 8796093022208) (hB : B ≤ w.heap.size)
    (h : ∀ v' w', Hid (OwnE B e v' (L ++ M) w') → Hid (Below B w w') → wpList P ops Q rest (a.put o.dst v') w') : wpList P ops Q (o :: rest) a w := by
  obtain ⟨i, hi, hz0, hz1, hz2⟩ := info_parts hinfo
  subst hn
  refine wpList_append_own_at w hgd s x _ ho B e i z 16 16 ht hi hz0 hz1 hz2 hzs (by decide) v L.length (flatE L) hs hown ad M.length c (flatE M) hx (flatE_len hM) hnews (flatE_all M) (by unfold maxLen; omega) (by omega) hB ?_
  intro v' w' h2 hg _ _
  refine h v' w' ?_ ((Below.refl B w).grown hg hB (fun k hk => (World.ownsRow.lt hown k hk).1))
  show w'.ownsRow B e 16 v' (L ++ M).length (flatE (L ++ M))
  rw [List.length_append, flatE_append]
  exact h2
/-- One element is read. -/
theorem wpList_load_elem {P : Program} {ops : Array Oper} {rest : List Oper} {o : Oper} {a : Act} {w : World} {Q : Exit → Act → World → Prop} (hgd : o.guard = none) (ty : TypeId) (x : Operand) (ho : o.op = .load ty x)
    (b off : Nat) (l : List Nat) (d : TypeDesc) (hx : a.eval x = .pointer (some ⟨b, off, none⟩)) (hc : w.rangeAt b off (nums .u8 l))
    (hu : P.underlying ty = some d) (hd : d.isRow = true) (hi : (P.info? ty).map (·.size) = some l.length)
    (h : wpList P ops Q rest (a.put o.dst (.agg (nums .u8 l).toArray)) w) : wpList P ops Q (o :: rest) a w :=
  wpList_load_mid hgd ty x ho b off hx _ d hc hu hd (by rw [nums_len]; exact hi) h
/-- .. in a region whose order is open. -/
theorem quiet_load_elem {P : Program} {o : Oper} {a : Act} {C : World → Prop} {K : Act → Prop} (ty : TypeId) (x : Operand) (ho : o.op = .load ty x) (b off : Nat) (l : List Nat) (d : TypeDesc)
    (hx : a.eval x = .pointer (some ⟨b, off, none⟩)) (hC : ∀ w, C w → w.rangeAt b off (nums .u8 l)) (hu : P.underlying ty = some d) (hd : d.isRow = true) (hi : (P.info? ty).map (·.size) = some l.length)
    (hk : K (a.put o.dst (.agg (nums .u8 l).toArray))) : o.quiet P a C K := by
  refine ⟨_, fun w hw => ?_, hk⟩
  unfold Oper.quietAt execOp
  simp only [ho, hx, Instr.loadAt, Instr.sureAddr, Sem.run_bind, Sem.run_pure, Result.andThen_ok, run_loadVar_mid w b off ty _ d (hC w hw) hu hd (by rw [nums_len]; exact hi)]
  exact ⟨rfl, rfl⟩
theorem op_load_elem {P : Program} {o : Oper} {a : Act} {w : World} {K : Act → World → Prop} {Q : Exit → Act → World → Prop} (ty : TypeId) (x : Operand) (ho : o.op = .load ty x) (b off : Nat) (l : List Nat) (d : TypeDesc)
    (hx : a.eval x = .pointer (some ⟨b, off, none⟩)) (hc : w.rangeAt b off (nums .u8 l)) (hu : P.underlying ty = some d) (hd : d.isRow = true) (hi : (P.info? ty).map (·.size) = some l.length)
    (h : K (a.put o.dst (.agg (nums .u8 l).toArray)) w) : OpWp P o a w K Q := by
  refine ⟨?_⟩
  unfold Oper.wp execOp
  simp only [ho, hx, Instr.loadAt, Instr.sureAddr, Sem.run_bind, Sem.run_pure, Result.andThen_ok, run_loadVar_mid w b off ty _ d hc hu hd (by rw [nums_len]; exact hi)]
  exact h

/-- An array of bytes among the cells that are read. -/
theorem trod_bytes {H : Type} {enc : TypeId × Value → H} {P : Program} {W : World} {t e : TypeId} {n base fuel : Nat} {sp : Nat → Bool} {held : Bool} {cs : List Value} {x : DataW H × List MemPlace}
    (hu : P.underlying t = some (.array n e)) (he : P.underlying e = some (.int .u8)) (hone : P.cellsOf e = 1) (hsz : P.cellsOf t = n) (h : DataW.trod enc P W base sp held fuel t cs = some x) :
    ∃ l : List Nat, cs = nums .u8 l ∧ l.length = n ∧ ∀ y ∈ l, y < 256 := by
  obtain ⟨xs, m, _, _, hcl, hxl, hat⟩ := DataW.trod_array hu h
  rw [hsz] at hcl
  have key : ∀ i, i < n → ∃ z : Int, cs[i]? = some (.int .u8 z) ∧ 0 ≤ z ∧ z ≤ 255 := by
    intro i hi
    have h1 := hat i hi
    rw [hone, Nat.mul_one, List.getElem?_eq_getElem (by omega)] at h1
    obtain ⟨z, hz, _, hw⟩ := DataW.trod_int he h1
    refine ⟨z, ?_, ?_⟩
    · have := congrArg (fun l => l[0]?) hz
      simpa [List.getElem?_drop, List.getElem?_take] using this
    · simp only [Lit.wf, Bool.and_eq_true, decide_eq_true_eq] at hw
      exact ⟨hw.1, hw.2⟩
  refine ⟨cs.map fun v => (intOf v).toNat, ?_, by simp [hcl], ?_⟩
  · refine List.ext_getElem? fun i => ?_
    rw [nums, List.getElem?_map, List.getElem?_map]
    rcases Nat.lt_or_ge i n with hi | hi
    · obtain ⟨z, h1, h2, h3⟩ := key i hi
      rw [h1]
      simp [intOf]
      omega
    · rw [List.getElem?_eq_none (by omega)]
      rfl
  · intro y hy
    obtain ⟨v, hv, rfl⟩ := List.mem_map.1 hy
    obtain ⟨i, hi, rfl⟩ := List.mem_iff_getElem.1 hv
    obtain ⟨z, h1, h2, h3⟩ := key i (by omega)
    rw [List.getElem?_eq_getElem hi] at h1
    obtain h1 := Option.some.inj h1
    rw [h1]
    simp [intOf]
    omega

/-- A slice of arrays of sixteen bytes that came in. -/
theorem open_elems {H : Type} {enc : TypeId × Value → H} {P : Program} {W : World} {v : Value} {d : DataW H} {p : List MemPlace} {base : Nat} {t e u : TypeId}
    (ht : P.underlying t = some (.slice e)) (hu : P.underlying e = some (.array 16 u)) (he : P.underlying u = some (.int .u8)) (hone : P.cellsOf u = 1) (hsz : P.cellsOf e = 16) (hb16 : P.bytesOf e = 16)
    (hv : Value.okWide P W .any base t v) (h : DataW.Trod enc P W 0 (fun _ => true) true t v d p) (hwt : ∀ n ∈ DataW.weights P t d, n ≤ 140737488351232) :
    ∃ (ao : Option Addr) (L : List (List Nat)) (cap : Nat), v = .slice ao L.length cap ∧ EAt ao L W ∧ Elems L ∧ L.length ≤ 8796093021952 ∧ (ao = none → cap = 0) := by
  obtain ⟨a0, len0, cap0, rfl⟩ := okWide_slice ht hv
  obtain ⟨fuel, hf⟩ := h
  rcases Deep.open_slice ht hf with ⟨hcs, _⟩ | ⟨x, len, cap, m, n, D, Pl, hcs, _, hl, hm, hmm, hx, hi⟩
  · simp [Value.cells] at hcs
    obtain ⟨rfl, rfl, rfl⟩ := hcs
    exact ⟨none, [], 0, rfl, Or.inl rfl, Elems.nil, by simp, fun _ => rfl⟩
  · simp [Value.cells] at hcs
    obtain ⟨rfl, rfl, rfl⟩ := hcs
    simp only [if_true] at hmm
    subst hmm
    rw [hsz] at hi
    have hd : d = .slice ((List.range len0).map D) ((List.range (m - len0)).map fun j => D (len0 + j)) := congrArg Prod.fst hx
    subst hd
    simp only [DataW.weights, ht] at hwt
    have hwn := hwt _ (List.mem_cons_self ..)
    rw [hb16] at hwn
    simp only [List.length_map, List.length_range] at hwn
    have hE : ∀ i, i < m → ∃ l : List Nat, (l.length = 16 ∧ ∀ y ∈ l, y < 256) ∧ ∀ j y, (nums .u8 l)[j]? = some y → W.cell? ((x.add (i * 16)).add j) = some y := by
      intro i him
      obtain ⟨cs', hc, htr⟩ := hi i him
      obtain ⟨_, hcl, hat⟩ := World.cells?_some hc
      obtain ⟨l, rfl, h1, h2⟩ := trod_bytes hu he hone hsz htr
      refine ⟨l, ⟨h1, h2⟩, fun j y hj => ?_⟩
      have hj16 : j < 16 := by
        have := (List.getElem?_eq_some_iff.1 hj).1
        rw [nums_len, h1] at this
        exact this
      rw [hat j hj16]
      exact hj
    let F : Nat → List Nat := fun i => if h : i < m then (hE i h).choose else []
    have hF : ∀ i, i < m → ((F i).length = 16 ∧ ∀ y ∈ F i, y < 256) ∧ ∀ j y, (nums .u8 (F i))[j]? = some y → W.cell? ((x.add (i * 16)).add j) = some y := by
      intro i him
      show ((if h : i < m then (hE i h).choose else []).length = 16 ∧ _) ∧ _
      simp only [F, dif_pos him]
      exact (hE i him).choose_spec
    have hlen : ((List.range len0).map F).length = len0 := by simp
    refine ⟨some x, (List.range len0).map F, m, by rw [hlen], ?_, ?_, by rw [hlen]; omega, fun h => by cases h⟩
    · by_cases h0 : len0 = 0
      · subst h0; exact Or.inl rfl
      · have h1 := hF 0 (by omega)
        obtain ⟨b, o, spot⟩ := x
        have hc0 := h1.2 0 ((nums .u8 (F 0))[0]'(by rw [nums_len, h1.1.1]; decide)) (List.getElem?_eq_getElem _)
        have hspot : spot = none := by simpa [Addr.add] using World.cell?_spot hc0
        subst hspot
        refine Or.inr ⟨b, o, rfl, ?_, fun i hi2 j y hj => ?_⟩
        · have := block_lt_of_cell hc0
          simpa [Addr.add] using this
        · rw [hlen] at hi2
          have hg : ((List.range len0).map F).getD i [] = F i := by rw [List.getD_eq_getElem?_getD, List.getElem?_map, List.getElem?_range hi2]; rfl
          rw [hg] at hj
          have := (hF i (by omega)).2 j y hj
          rw [Addr.add_mid, Addr.add_mid] at this
          rw [Nat.mul_comm 16 i]
          exact this
    · intro z hz
      obtain ⟨i, hi2, rfl⟩ := List.mem_map.1 hz
      exact (hF i (by have := List.mem_range.1 hi2; omega)).1

/-! ### Rows that the call makes whole, and stores into them -/
theorem Elems.set {L : List (List Nat)} (h : Elems L) (i : Nat) {x : List Nat} (hx : x.length = 16) (lx : ∀ y ∈ x, y < 256) : Elems (L.set i x) := fun z hz => by
  rcases List.mem_or_eq_of_mem_set hz with hz | rfl
  · exact h z hz
  · exact ⟨hx, lx⟩
theorem Elems.zeros (n : Nat) : Elems (List.replicate n (List.replicate 16 0)) := fun z hz => by
  obtain rfl := (List.mem_replicate.1 hz).2
  exact ⟨rfl, by decide⟩
theorem flatE_zeros (n : Nat) : flatE (List.replicate n (List.replicate 16 0)) = List.replicate (n * 16) (.int .u8 0) := by
  induction n with
  | zero => rfl
  | succ n ih =>
    rw [List.replicate_succ, flatE, List.flatMap_cons]
    rw [show nums .u8 (List.replicate 16 0) = List.replicate 16 (.int .u8 0) from rfl]
    have ih' : List.flatMap (nums .u8) (List.replicate n (List.replicate 16 0)) = List.replicate (n * 16) (.int .u8 0) := ih
    rw [ih', List.replicate_append_replicate]
    congr 1
    omega
theorem madeCells_16 (n : Nat) : (madeCells (Value.agg (nums .u8 (List.replicate 16 0)).toArray).cells (n * 16)).toList = flatE (List.replicate n (List.replicate 16 0)) := by
  rw [flatE_zeros]
  refine List.ext_getElem (by simp [madeCells]) fun j h1 h2 => ?_
  have hz : (Value.agg (nums .u8 (List.replicate 16 0)).toArray).cells = Array.replicate 16 (.int .u8 0) := rfl
  simp only [madeCells, hz, Array.getElem_toList, Array.getElem_map, Array.getElem_range, List.getElem_replicate, Array.size_replicate]
  have hj : j % 16 < 16 := Nat.mod_lt _ (by decide)
  rw [getElem!_pos _ _ (by simpa using hj), Array.getElem_replicate]
theorem OwnE.made {B g n : Nat} {e : TypeId} {w : World} (h : w.ownsRow B e 16 (.slice (some ⟨g, 0, none⟩) n n) n (madeCells (Value.agg (nums .u8 (List.replicate 16 0)).toArray).cells (n * 16)).toList) :
    OwnE B e (.slice (some ⟨g, 0, none⟩) n n) (List.replicate n (List.replicate 16 0)) w := by
  unfold OwnE
  rw [List.length_replicate, ← madeCells_16]
  exact h

/-- A list with others laid into it from a place on. -/
def layL (xs : List Value) : Nat → List Value → List Value
  | _, [] => xs
  | o, v :: r => layL (xs.set o v) (o + 1) r
theorem layL_len : ∀ (vs : List Value) (xs : List Value) (o : Nat), (layL xs o vs).length = xs.length
  | [], _, _ => rfl
  | v :: r, xs, o => by rw [layL, layL_len r, List.length_set]
theorem layL_get : ∀ (vs : List Value) (xs : List Value) (o j : Nat), o + vs.length ≤ xs.length → (layL xs o vs)[j]? = if o ≤ j ∧ j < o + vs.length then vs[j - o]? else xs[j]?
  | [], xs, o, j, _ => by rw [layL, if_neg (by simp only [List.length_nil]; omega)]
  | v :: r, xs, o, j, h => by
    simp only [List.length_cons] at h ⊢
    rw [layL, layL_get r (xs.set o v) (o + 1) j (by rw [List.length_set]; omega)]
    by_cases h1 : o + 1 ≤ j ∧ j < o + 1 + r.length
    · rw [if_pos h1, if_pos (by omega), show j - o = (j - (o + 1)) + 1 by omega, List.getElem?_cons_succ]
    · rw [if_neg h1]
      by_cases h2 : j = o
      · subst h2
        rw [if_pos (by omega), Nat.sub_self, List.getElem?_set_self (by omega)]
        rfl
      · rw [if_neg (by omega), List.getElem?_set_ne (by omega)]
theorem flatE_set {L : List (List Nat)} (hL : Elems L) {i : Nat} (hi : i < L.length) {x : List Nat} (hx : x.length = 16) (lx : ∀ y ∈ x, y < 256) : flatE (L.set i x) = layL (flatE L) (16 * i) (nums .u8 x) := by
  have hnx : (nums .u8 x).length = 16 := by rw [nums_len, hx]
  have hfl := flatE_len hL
  have hS := hL.set i hx lx
  have hfs := flatE_len hS
  rw [List.length_set] at hfs
  refine List.ext_getElem? fun j => ?_
  rw [layL_get _ _ _ _ (by rw [hnx, hfl]; omega), hnx]
  rcases Nat.lt_or_ge j (L.length * 16) with hj | hj
  · obtain ⟨q, m, rfl, hm⟩ : ∃ q m, j = 16 * q + m ∧ m < 16 := ⟨j / 16, j % 16, by omega, Nat.mod_lt _ (by decide)⟩
    rw [flatE_get hS (by rw [List.length_set]; omega) hm, flatE_get hL (by omega) hm]
    by_cases hq : q = i
    · subst hq
      rw [if_pos (by omega), show 16 * q + m - 16 * q = m by omega]
      simp [List.getD_eq_getElem?_getD, List.getElem?_set_self hi]
    · rw [if_neg (by omega)]
      simp [List.getD_eq_getElem?_getD, List.getElem?_set_ne (Ne.symm hq)]
  · rw [if_neg (by omega), List.getElem?_eq_none (by omega), List.getElem?_eq_none (by omega)]
theorem ownsRow_lay {B g n c size : Nat} {e : TypeId} : ∀ (vs xs : List Value) (o : Nat) (w : World), w.ownsRow B e size (.slice (some ⟨g, 0, none⟩) n c) n xs → (w.setCells g o vs).ownsRow B e size (.slice (some ⟨g, 0, none⟩) n c) n (layL xs o vs)
  | [], _, _, _, h => h
  | v :: r, _, o, _, h => ownsRow_lay r _ (o + 1) _ (World.ownsRow.stored h o v).1
/-- An element is stored into a row of the call's own. -/
theorem OwnE.set {B g n c i : Nat} {e : TypeId} {L : List (List Nat)} {w : World} (hn : n = L.length) (h : OwnE B e (.slice (some ⟨g, 0, none⟩) n c) L w) (hL : Elems L) (hi : i < n) {x : List Nat} (hx : x.length = 16) (lx : ∀ y ∈ x, y < 256) :
    OwnE B e (.slice (some ⟨g, 0, none⟩) n c) (L.set i x) (w.setCells g (16 * i) (nums .u8 x)) := by
  subst hn
  have h1 := ownsRow_lay (nums .u8 x) _ (16 * i) w h
  unfold OwnE
  rw [List.length_set, flatE_set hL hi hx lx]
  exact h1
theorem OwnE.there {B g n c i : Nat} {e : TypeId} {L : List (List Nat)} {w : World} (hn : n = L.length) (h : OwnE B e (.slice (some ⟨g, 0, none⟩) n c) L w) (hL : Elems L) (hi : i < n) : w.there g (16 * i) 16 := by
  subst hn
  intro j hj
  exact ⟨by rw [World.ownsRow.cellAt h (16 * i + j) (by omega), List.getElem?_eq_getElem (by rw [flatE_len hL]; omega)]; rfl, World.ownsRow.frozenAt h (16 * i + j)⟩
theorem But.setCells {b : Nat} {w : World} : ∀ (vs : List Value) (o : Nat) (w' : World), But b w w' → But b w (w'.setCells b o vs)
  | [], _, _, h => h
  | v :: r, o, _, h => But.setCells r (o + 1) _ (h.setCell o v)
/-- A store of an element into a row of the call's own. -/
theorem wpList_store_elem {P : Program} {w : World} {ops : Array Oper} {rest : List Oper} {o : Oper} {a : Act} {Q : Exit → Act → World → Prop} (hgd : o.guard = none) (ty : TypeId) (x y : Operand) (ho : o.op = .store ty x y) (hd : o.dst = none)
    (B g n c i off : Nat) (e : TypeId) (L : List (List Nat)) (l : List Nat) (hn : n = L.length) (hoff : off = 16 * i) (hx : a.eval x = .pointer (some ⟨g, off, none⟩)) (hy : a.eval y = .agg (nums .u8 l).toArray)
    (hO : OwnE B e (.slice (some ⟨g, 0, none⟩) n c) L w) (hL : Elems L) (hi : i < n) (hl : l.length = 16) (ll : ∀ y ∈ l, y < 256) (hty : (P.info? ty).map (·.size) = some 16)
    (h : ∀ w', Hid (OwnE B e (.slice (some ⟨g, 0, none⟩) n c) (L.set i l) w') → Hid (But g w w') → wpList P ops Q rest a w') : wpList P ops Q (o :: rest) a w := by
  subst hoff
  have hs : (nums .u8 l).toArray.size = 16 := by rw [List.size_toArray, nums_len, hl]
  refine wpList_store_mid hgd ty x y ho g (16 * i) _ hx hy (by rw [hs]; exact hO.there hn hL hi) (by rw [hs]; exact hty) (all_oneCell_toArray (nums_one _ _)) ?_
  rw [hd]
  refine h _ ?_ ?_
  · exact (hO.set hn hL hi hl ll)
  · exact (But.setCells _ _ _ (But.refl _ _))
theorem rangeAt_below {b o B : Nat} {cs : List Value} {w w' : World} (h : w.rangeAt b o cs) (hb : Below B w w') (hB : b < B) : w'.rangeAt b o cs := fun j v hv => (hb.cell (p := ⟨b, o + j, none⟩) hB).trans (h j v hv)

/-! ### A literal of one element; one byte of an element -/
theorem Tryd.infoE16 : (Tryd.prog.info? 31).map (fun i => (i.zero, i.size, i.bytes)) = some (some (.agg (nums .u8 (List.replicate 16 0)).toArray), 16, 16) := by kernel_rfl
/-- A literal slice of one element. -/
theorem wpList_build_elem {P : Program} {ops : Array Oper} {rest : List Oper} {o : Oper} {a : Act} {w : World} {Q : Exit → Act → World → Prop} (hg : o.guard = none) (t e : TypeId) (x : Operand) (ho : o.op = .buildSlice t 1 #[(0, x)])
    (l : List Nat) (hx : a.eval x = .agg (nums .u8 l).toArray) (hl : l.length = 16) (ht : P.underlying t = some (.slice e)) (hinfo : (P.info? e).map (fun i => (i.zero, i.size, i.bytes)) = some (some (.agg (nums .u8 (List.replicate 16 0)).toArray), 16, 16))
    (h : ∀ w', Hid (Blk w.heap.size e .u8 l w') → Hid (Below w.heap.size w w') → wpList P ops Q rest (a.put o.dst (.slice (some ⟨w.heap.size, 0, none⟩) 1 1)) w') : wpList P ops Q (o :: rest) a w := by
  obtain ⟨ie, hi, hz0, hz1, _⟩ := info_parts hinfo
  refine wpList_buildSlice hg t e 1 #[(0, x)] ho (nums .u8 l).toArray ie _ ht hi hz0 (by rw [hz1]; decide) (by rw [hz1]; decide) ?_ (h _ (heap_alloc_new w _) ((Below.refl _ w).alloc (Nat.le_refl _) _))
  rw [hz1]
  have h1 := Great.fill_whole (s := 16) (by decide) [Value.agg (nums .u8 l).toArray] ((Array.range (1 * 16)).map ((Value.agg (nums .u8 (List.replicate 16 0)).toArray).cells[· % (Value.agg (nums .u8 (List.replicate 16 0)).toArray).cells.size]!))
    (fun v hv => by obtain rfl := List.mem_singleton.1 hv; show (nums .u8 l).toArray.size = 16; rw [List.size_toArray, nums_len, hl]) (by simp)
  have e1 : ((#[(0, x)] : Array (Nat × Operand)).map fun (i, x) => (i, a.eval x)).toList = ([Value.agg (nums .u8 l).toArray].zipIdx 0).map fun x => (x.2, x.1) := by
    simp [hx, List.zipIdx_cons]
  have e2 : ([Value.agg (nums .u8 l).toArray].flatMap fun v => v.cells.toList).toArray = (nums .u8 l).toArray := by
    rw [List.flatMap_cons, List.flatMap_nil, List.append_nil]
    rfl
  rw [e1, h1, e2]
theorem take_next {L : List (List Nat)} {k : Nat} (h : k < L.length) : L.take (k + 1) = L.take k ++ [L.getD k []] := by
  rw [List.take_succ_eq_append_getElem h, List.getD_eq_getElem?_getD, List.getElem?_eq_getElem h]
  rfl
theorem take_len {L : List (List Nat)} {k : Nat} (h : k ≤ L.length) : (L.take k).length = k := by rw [List.length_take]; omega
theorem eAt_one {g : Nat} {t : TypeId} {x : List Nat} {w : World} (h : Blk g t .u8 x w) : EAt (some ⟨g, 0, none⟩) [x] w := by
  refine .inr ⟨g, 0, rfl, h.lt, fun i hi j v hv => ?_⟩
  obtain rfl : i = 0 := by simpa using hi
  have := blk_news h j v hv
  rw [Addr.add_lit] at this
  simpa using this
theorem OwnE.byte {B g n c i j : Nat} {e : TypeId} {L : List (List Nat)} {w : World} (hn : n = L.length) (h : OwnE B e (.slice (some ⟨g, 0, none⟩) n c) L w) (hL : Elems L) (hi : i < n) (hj : j < 16) :
    w.cell? ⟨g, i * 16 + j, none⟩ = some (.int .u8 (((L.getD i []).getD j 0 : Nat) : Int)) := by
  subst hn
  have hx := (hL.getD hi).1
  rw [World.ownsRow.cellAt h (i * 16 + j) (by omega), Nat.mul_comm, flatE_get hL hi hj, nums, List.getElem?_map, List.getElem?_eq_getElem (by omega), List.getD_eq_getElem?_getD (l := L.getD i []), List.getElem?_eq_getElem (by omega)]
  rfl
theorem OwnE.frozenByte {B g n c : Nat} {e : TypeId} {L : List (List Nat)} {w : World} (hn : n = L.length) (h : OwnE B e (.slice (some ⟨g, 0, none⟩) n c) L w) (o : Nat) : w.frozen? ⟨g, o, none⟩ = false := by
  subst hn
  exact World.ownsRow.frozenAt h o
theorem set_lt {x : List Nat} (hx : ∀ y ∈ x, y < 256) (j : Nat) {z : Nat} (hz : z < 256) : ∀ y ∈ x.set j z, y < 256 := fun y hy => by
  rcases List.mem_or_eq_of_mem_set hy with h | rfl
  · exact hx y h
  · exact hz
theorem flatE_byte {L : List (List Nat)} (hL : Elems L) {i j z : Nat} (hi : i < L.length) (hj : j < 16) (hz : z < 256) : flatE (L.set i ((L.getD i []).set j z)) = (flatE L).set (i * 16 + j) (.int .u8 (z : Int)) := by
  obtain ⟨hx1, hx2⟩ := hL.getD hi
  have hfl := flatE_len hL
  have hs1 : ((L.getD i []).set j z).length = 16 := by rw [List.length_set, hx1]
  have hns : (nums .u8 ((L.getD i []).set j z)).length = 16 := by rw [nums_len, hs1]
  rw [flatE_set hL hi hs1 (set_lt hx2 j hz)]
  refine List.ext_getElem? fun q => ?_
  rw [layL_get _ _ _ _ (by rw [hns, hfl]; omega), hns]
  by_cases hq : 16 * i ≤ q ∧ q < 16 * i + 16
  · rw [if_pos hq]
    obtain ⟨m, rfl, hm⟩ : ∃ m, q = 16 * i + m ∧ m < 16 := ⟨q - 16 * i, by omega, by omega⟩
    rw [show 16 * i + m - 16 * i = m by omega, nums, List.map_set]
    by_cases hmj : m = j
    · subst hmj
      rw [List.getElem?_set_self (by rw [List.length_map]; omega), show i * 16 + m = 16 * i + m by omega, List.getElem?_set_self (by omega)]
    · rw [List.getElem?_set_ne (Ne.symm hmj), List.getElem?_set_ne (by omega), flatE_get hL hi hm]
      rfl
  · rw [if_neg hq, List.getElem?_set_ne (by omega)]
/-- One byte of an element is stored. -/
theorem OwnE.setByte {B g n c i j z : Nat} {e : TypeId} {L : List (List Nat)} {w : World} (hn : n = L.length) (h : OwnE B e (.slice (some ⟨g, 0, none⟩) n c) L w) (hL : Elems L) (hi : i < n) (hj : j < 16) (hz : z < 256) :
    OwnE B e (.slice (some ⟨g, 0, none⟩) n c) (L.set i ((L.getD i []).set j z)) (w.setCell ⟨g, i * 16 + j, none⟩ (.int .u8 (z : Int))) := by
  subst hn
  have h1 := (World.ownsRow.stored h (i * 16 + j) (.int .u8 (z : Int))).1
  unfold OwnE
  rw [List.length_set, flatE_byte hL hi hj hz]
  exact h1
theorem Elems.setByte {L : List (List Nat)} (hL : Elems L) {i j z : Nat} (hi : i < L.length) (hz : z < 256) : Elems (L.set i ((L.getD i []).set j z)) := by
  obtain ⟨hx1, hx2⟩ := hL.getD hi
  exact hL.set i (by rw [List.length_set, hx1]) (set_lt hx2 j hz)
end Go.Proofs.YtcjjhddppcmgoaaDoor
