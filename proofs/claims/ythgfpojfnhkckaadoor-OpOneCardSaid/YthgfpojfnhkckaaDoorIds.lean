/-
  Rows of elements of thirty-two bytes: what lies there, what is pushed, stored and read; a slice of arrays that came in.
-/
import Derived.Test.YthgfpojfnhkckaaDoorRegion
import Derived.Deep.MidRow
import Derived.Deep.Slices
import Derived.OpenShut
import Derived.Great.BuildSlice
namespace Go.Proofs.YthgfpojfnhkckaaDoor
open Go.RowKit Go.ChangeShapes Go.WideShapes

/-- The elements of a list: thirty-two bytes each. -/
def Ids (L : List (List Nat)) : Prop := ∀ x ∈ L, x.length = 32 ∧ ∀ y ∈ x, y < 256
theorem Ids.nil : Ids [] := fun x hx => by cases hx
theorem Ids.getD {L : List (List Nat)} (h : Ids L) {i : Nat} (hi : i < L.length) : (L.getD i []).length = 32 ∧ ∀ y ∈ L.getD i [], y < 256 := by
  rw [List.getD_eq_getElem?_getD, List.getElem?_eq_getElem hi]
  exact h _ (List.getElem_mem hi)
theorem Ids.append {L M : List (List Nat)} (h : Ids L) (k : Ids M) : Ids (L ++ M) := fun x hx => (List.mem_append.1 hx).elim (h x) (k x)
theorem Ids.one {x : List Nat} (h : x.length = 32) (k : ∀ y ∈ x, y < 256) : Ids [x] := fun z hz => by
  obtain rfl := List.mem_singleton.1 hz
  exact ⟨h, k⟩
theorem Ids.take {L : List (List Nat)} (h : Ids L) (n : Nat) : Ids (L.take n) := fun x hx => h x (List.mem_of_mem_take hx)
theorem Ids.drop {L : List (List Nat)} (h : Ids L) (n : Nat) : Ids (L.drop n) := fun x hx => h x (List.mem_of_mem_drop hx)

/-- Elements lie in a row from an address on. -/
def IAt (ao : Option Addr) (L : List (List Nat)) (w : World) : Prop :=
  L = [] ∨ ∃ b o, ao = some ⟨b, o, none⟩ ∧ b < w.heap.size ∧ ∀ i, i < L.length → w.rangeAt b (o + 32 * i) (nums .u8 (L.getD i []))
theorem IAt.below {ao : Option Addr} {L : List (List Nat)} {w w' : World} (h : IAt ao L w) (hb : Below w.heap.size w w') : IAt ao L w' := by
  rcases h with h | ⟨b, o, h1, h2, h3⟩
  · exact .inl h
  · exact .inr ⟨b, o, h1, Nat.lt_of_lt_of_le h2 hb.size, fun i hi j v hv => (hb.cell (p := ⟨b, o + 32 * i + j, none⟩) h2).trans (h3 i hi j v hv)⟩
theorem IAt.get {b o : Nat} {L : List (List Nat)} {w : World} (h : IAt (some ⟨b, o, none⟩) L w) {i : Nat} (hi : i < L.length) : w.rangeAt b (o + i * 32) (nums .u8 (L.getD i [])) := by
  rcases h with rfl | ⟨b', o', h1, _, h3⟩
  · cases hi
  · simp only [Option.some.injEq, Addr.mk.injEq] at h1
    obtain ⟨rfl, rfl, _⟩ := h1
    rw [Nat.mul_comm]
    exact h3 i hi
theorem IAt.some {ao : Option Addr} {L : List (List Nat)} {w : World} (h : IAt ao L w) (h0 : 0 < L.length) : ∃ b o, ao = some ⟨b, o, none⟩ ∧ b < w.heap.size := by
  rcases h with rfl | ⟨b, o, h1, h2, _⟩
  · cases h0
  · exact ⟨b, o, h1, h2⟩

/-- Their cells, one behind the other. -/
def flatI (L : List (List Nat)) : List Value := L.flatMap (nums .u8)
theorem flatI_len {L : List (List Nat)} (h : Ids L) : (flatI L).length = L.length * 32 := by
  induction L with
  | nil => rfl
  | cons x L ih =>
    have h1 := (h x (by simp)).1
    have h2 := ih fun y hy => h y (by simp [hy])
    simp only [flatI, List.flatMap_cons, List.length_append, nums_len, List.length_cons] at *
    omega
theorem flatI_append (L M : List (List Nat)) : flatI (L ++ M) = flatI L ++ flatI M := by simp [flatI]
theorem flatI_one (x : List Nat) : flatI [x] = nums .u8 x := by simp [flatI]
theorem flatI_all (L : List (List Nat)) : ∀ u ∈ flatI L, u.oneCell' = true := by
  intro u hu
  simp only [flatI, List.mem_flatMap] at hu
  obtain ⟨x, _, hx⟩ := hu
  exact nums_one .u8 x u hx
theorem flatI_get {L : List (List Nat)} (h : Ids L) : ∀ {i j : Nat}, i < L.length → j < 32 → (flatI L)[32 * i + j]? = (nums .u8 (L.getD i []))[j]? := by
  induction L with
  | nil => intro i j hi _; cases hi
  | cons x L ih =>
    intro i j hi hj
    have h1 := (h x (by simp)).1
    have hx : (nums .u8 x).length = 32 := by rw [nums_len, h1]
    rw [flatI, List.flatMap_cons]
    cases i with
    | zero => rw [Nat.mul_zero, Nat.zero_add, List.getElem?_append_left (by omega)]; rfl
    | succ i =>
      rw [List.getElem?_append_right (by omega), hx, show 32 * (i + 1) + j - 32 = 32 * i + j by omega]
      exact ih (fun y hy => h y (by simp [hy])) (by simpa using hi) hj
/-- A row of elements of the call's own. -/
def OwnI (B : Nat) (e : TypeId) (v : Value) (L : List (List Nat)) (w : World) : Prop := w.ownsRow B e 32 v L.length (flatI L)
theorem OwnI.nil (B : Nat) (e : TypeId) (w : World) : OwnI B e (.slice none 0 0) [] w := World.ownsRow_nil _ _ _ _
theorem OwnI.form {B : Nat} {e : TypeId} {v : Value} {L : List (List Nat)} {w : World} (h : OwnI B e v L w) : ∃ ao cap, v = .slice ao L.length cap := by
  rcases h.2 with ⟨h1, h2⟩ | ⟨g, cap, _, h1, _⟩
  · exact ⟨_, _, by rw [h1, h2]⟩
  · exact ⟨_, _, h1⟩
theorem OwnI.formB {B : Nat} {e : TypeId} {v : Value} {L : List (List Nat)} {w : World} (h : OwnI B e v L w) (h0 : 0 < L.length) : ∃ g cap, v = .slice (some ⟨g, 0, none⟩) L.length cap ∧ B ≤ g ∧ g < w.heap.size := by
  rcases h.2 with ⟨_, h2⟩ | ⟨g, cap, cur, h1, h2, h3, _⟩
  · omega
  · exact ⟨g, cap, h1, h2, lt_of_block h3⟩
theorem OwnI.below {B : Nat} {e : TypeId} {v : Value} {L : List (List Nat)} {w w' : World} (h : OwnI B e v L w) (b : Below w.heap.size w w') : OwnI B e v L w' := by
  refine ⟨h.1, ?_⟩
  rcases h.2 with h2 | ⟨g, cap, cur, h1, h2, h3, h4⟩
  · exact .inl h2
  · exact .inr ⟨g, cap, cur, h1, h2, (b.block g (lt_of_block h3)).trans h3, h4⟩
theorem OwnI.mono {B B' : Nat} {e : TypeId} {v : Value} {L : List (List Nat)} {w : World} (h : OwnI B e v L w) (hB : B' ≤ B) : OwnI B' e v L w := by
  refine ⟨h.1, ?_⟩
  rcases h.2 with h2 | ⟨g, cap, cur, h1, h2, h3⟩
  · exact .inl h2
  · exact .inr ⟨g, cap, cur, h1, Nat.le_trans hB h2, h3⟩
theorem OwnI.alloc {B : Nat} {e : TypeId} {v : Value} {L : List (List Nat)} {w : World} (h : OwnI B e v L w) (o : Obj) : OwnI B e v L (w.alloc o) := World.ownsRow.alloc h o
theorem OwnI.but {B b : Nat} {e : TypeId} {v : Value} {L : List (List Nat)} {w w' : World} (h : OwnI B e v L w) (hb : But b w w') (ap : ∀ g, v.ownBlock = some g → b ≠ g) : OwnI B e v L w' := by
  refine ⟨h.1, ?_⟩
  rcases h.2 with h2 | ⟨g, cap, cur, h1, h2, h3, h4⟩
  · exact .inl h2
  · exact .inr ⟨g, cap, cur, h1, h2, (hb.block g (lt_of_block h3) (fun e => ap g (by rw [h1]; rfl) e.symm)).trans h3, h4⟩
theorem OwnI.at {B : Nat} {e : TypeId} {ao : Option Addr} {n c : Nat} {L : List (List Nat)} {w : World} (h : OwnI B e (.slice ao n c) L w) (hL : Ids L) : IAt ao L w := by
  by_cases h0 : L = []
  · exact .inl h0
  · obtain ⟨g, cap, hv, _, hg⟩ := h.formB (List.length_pos_iff.2 h0)
    obtain rfl : ao = some ⟨g, 0, none⟩ := by injection hv
    refine .inr ⟨g, 0, rfl, hg, fun i hi j v hj => ?_⟩
    have hc := World.ownsRow.cells h (g := g) rfl (32 * i + j) v
    have hj16 : j < 32 := by
      have := (List.getElem?_eq_some_iff.1 hj).1
      rw [nums_len, (hL.getD hi).1] at this
      exact this
    rw [flatI_get hL hi hj16, Addr.add_lit, Nat.zero_add] at hc
    rw [Nat.zero_add]
    exact hc hj

/-- Elements pushed onto a row of the call's own. -/
theorem wpList_append_ids {P : Program} {w : World} {ops : Array Oper} {rest : List Oper} {o : Oper} {a : Act} {Q : Exit → Act → World → Prop} (hgd : o.guard = none) (s x : Operand) (t e : TypeId)
    (ho : o.op = .call { callee := .builtin .append, args := #[s, x], argTypes := #[t, t] })
    (B : Nat) (z : Value) (hzs : z.cells.size = 32) (ht : P.underlying t = some (.slice e)) (hinfo : (P.info? e).map (fun i => (i.zero, i.size, i.bytes)) = some (some z, 32, 32))
    (v : Value) (L M : List (List Nat)) (hM : Ids M) (ad : Addr) (n c : Nat) (hn : n = M.length) (hs : a.eval s = v) (hown : OwnI B e v L w) (hx : a.eval x = .slice (some ad) n c) (hnews : ∀ j u, (flatI M)[j]? = some u → w.cell? (ad.add j) = some u)
    (h63 : L.length + M.length ≤ 4398046511104) (hB : B ≤ w.heap.size)
    (h : ∀ v' w', Hid (OwnI B e v' (L ++ M) w') → Hid (Below B w w') → wpList P ops Q rest (a.put o.dst v') w') : wpList P ops Q (o :: rest) a w := by
  obtain ⟨i, hi, hz0, hz1, hz2⟩ := info_parts hinfo
  subst hn
  refine wpList_append_own_at w hgd s x _ ho B e i z 32 32 ht hi hz0 hz1 hz2 hzs (by decide) v L.length (flatI L) hs hown ad M.length c (flatI M) hx (flatI_len hM) hnews (flatI_all M) (by unfold maxLen; omega) (by omega) hB ?_
  intro v' w' h2 hg _ _
  refine h v' w' ?_ ((Below.refl B w).grown hg hB (fun k hk => (World.ownsRow.lt hown k hk).1))
  show w'.ownsRow B e 32 v' (L ++ M).length (flatI (L ++ M))
  rw [List.length_append, flatI_append]
  exact h2
/-- One element is read. -/
theorem wpList_load_id {P : Program} {ops : Array Oper} {rest : List Oper} {o : Oper} {a : Act} {w : World} {Q : Exit → Act → World → Prop} (hgd : o.guard = none) (ty : TypeId) (x : Operand) (ho : o.op = .load ty x)
    (b off : Nat) (l : List Nat) (d : TypeDesc) (hx : a.eval x = .pointer (some ⟨b, off, none⟩)) (hc : w.rangeAt b off (nums .u8 l))
    (hu : P.underlying ty = some d) (hd : d.isRow = true) (hi : (P.info? ty).map (·.size) = some l.length)
    (h : wpList P ops Q rest (a.put o.dst (.agg (nums .u8 l).toArray)) w) : wpList P ops Q (o :: rest) a w :=
  wpList_load_mid hgd ty x ho b off hx _ d hc hu hd (by rw [nums_len]; exact hi) h
/-- .. in a region whose order is open. -/
theorem quiet_load_id {P : Program} {o : Oper} {a : Act} {C : World → Prop} {K : Act → Prop} (ty : TypeId) (x : Operand) (ho : o.op = .load ty x) (b off : Nat) (l : List Nat) (d : TypeDesc)
    (hx : a.eval x = .pointer (some ⟨b, off, none⟩)) (hC : ∀ w, C w → w.rangeAt b off (nums .u8 l)) (hu : P.underlying ty = some d) (hd : d.isRow = true) (hi : (P.info? ty).map (·.size) = some l.length)
    (hk : K (a.put o.dst (.agg (nums .u8 l).toArray))) : o.quiet P a C K := by
  refine ⟨_, fun w hw => ?_, hk⟩
  unfold Oper.quietAt execOp
  simp only [ho, hx, Instr.loadAt, Instr.sureAddr, Sem.run_bind, Sem.run_pure, Result.andThen_ok, run_loadVar_mid w b off ty _ d (hC w hw) hu hd (by rw [nums_len]; exact hi)]
  exact ⟨rfl, rfl⟩
theorem op_load_id {P : Program} {o : Oper} {a : Act} {w : World} {K : Act → World → Prop} {Q : Exit → Act → World → Prop} (ty : TypeId) (x : Operand) (ho : o.op = .load ty x) (b off : Nat) (l : List Nat) (d : TypeDesc)
    (hx : a.eval x = .pointer (some ⟨b, off, none⟩)) (hc : w.rangeAt b off (nums .u8 l)) (hu : P.underlying ty = some d) (hd : d.isRow = true) (hi : (P.info? ty).map (·.size) = some l.length)
    (h : K (a.put o.dst (.agg (nums .u8 l).toArray)) w) : OpWp P o a w K Q := by
  refine ⟨?_⟩
  unfold Oper.wp execOp
  simp only [ho, hx, Instr.loadAt, Instr.sureAddr, Sem.run_bind, Sem.run_pure, Result.andThen_ok, run_loadVar_mid w b off ty _ d hc hu hd (by rw [nums_len]; exact hi)]
  exact h

/-- An array of bytes among the cells that are read. -/
theorem trod_bytesI {H : Type} {enc : TypeId × Value → H} {P : Program} {W : World} {t e : TypeId} {n base fuel : Nat} {sp : Nat → Bool} {held : Bool} {cs : List Value} {x : DataW H × List MemPlace}
    (hu : P.underlying t = some (.array n e)) (he : P.underlying e = some (.int .u8)) (hone : P.cellsOf e = 1) (hsz : P.cellsOf t = n) (h : DataW.trod enc P W base sp held fuel t cs = some x) :
    ∃ l : List Nat, cs = nums .u8 l ∧ l.length = n ∧ ∀ y ∈ l, y < 256 := by
  obtain ⟨xs, m, _, _, hcl, hxl, hat⟩ := DataW.trod_array hu h
  rw [hsz] at hcl
  have key : ∀ i, i < n → ∃ z : Int, cs[i]? = some (.int .u8 z) ∧ 0 ≤ z ∧ z ≤ 255 := by
    intro i hi
    have h1 := hat i hi
    rw [hone, Nat.mul_one, List.getElem?_eq_getElem (by omega)] at h1
    obtain ⟨z, hz, _, hw⟩ := DataW.trod_int he h1
    refine ⟨z, ?_, ?_⟩
    · have := congrArg (fun l => l[0]?) hz
      simpa [List.getElem?_drop, List.getElem?_take] using this
    · simp only [Lit.wf, Bool.and_eq_true, decide_eq_true_eq] at hw
      exact ⟨hw.1, hw.2⟩
  refine ⟨cs.map fun v => (intOf v).toNat, ?_, by simp [hcl], ?_⟩
  · refine List.ext_getElem? fun i => ?_
    rw [nums, List.getElem?_map, List.getElem?_map]
    rcases Nat.lt_or_ge i n with hi | hi
    · obtain ⟨z, h1, h2, h3⟩ := key i hi
      rw [h1]
      simp [intOf]
      omega
    · rw [List.getElem?_eq_none (by omega)]
      rfl
  · intro y hy
    obtain ⟨v, hv, rfl⟩ := List.mem_map.1 hy
    obtain ⟨i, hi, rfl⟩ := List.mem_iff_getElem.1 hv
    obtain ⟨z, h1, h2, h3⟩ := key i (by omega)
    rw [List.getElem?_eq_getElem hi] at h1
    obtain h1 := Option.some.inj h1
    rw [h1]
    simp [intOf]
    omega

/-- A slice of arrays of thirty-two bytes among the cells that are read. -/
theorem open_ids_row {H : Type} {enc : TypeId × Value → H} {P : Program} {W : World} {v : Value} {fuel : Nat} {x : DataW H × List MemPlace} {t e u : TypeId}
    (ht : P.underlying t = some (.slice e)) (hu : P.underlying e = some (.array 32 u)) (he : P.underlying u = some (.int .u8)) (hone : P.cellsOf u = 1) (hsz : P.cellsOf e = 32) (hb16 : P.bytesOf e = 32)
    (hf : DataW.trod enc P W 0 (fun _ => true) true fuel t [v] = some x) (hwt : ∀ n ∈ DataW.weights P t x.1, n ≤ 140737488351232) :
    ∃ (ao : Option Addr) (L : List (List Nat)) (cap : Nat), v = .slice ao L.length cap ∧ IAt ao L W ∧ Ids L ∧ L.length ≤ 4398046510976 ∧ (ao = none → cap = 0) := by
  rcases Deep.open_slice ht hf with ⟨hcs, _⟩ | ⟨x0, len0, cap0, m, n, D, Pl, hcs, _, hl, hm, hmm, hx, hi⟩
  · simp only [List.cons.injEq, and_true] at hcs
    subst hcs
    exact ⟨none, [], 0, rfl, Or.inl rfl, Ids.nil, by simp, fun _ => rfl⟩
  · simp only [List.cons.injEq, and_true] at hcs
    subst hcs
    simp only [if_true] at hmm
    subst hmm
    rw [hsz] at hi
    have hd : x.1 = .slice ((List.range len0).map D) ((List.range (m - len0)).map fun j => D (len0 + j)) := congrArg Prod.fst hx
    rw [hd] at hwt
    simp only [DataW.weights, ht] at hwt
    have hwn := hwt _ (List.mem_cons_self ..)
    rw [hb16] at hwn
    simp only [List.length_map, List.length_range] at hwn
    have hE : ∀ i, i < m → ∃ l : List Nat, (l.length = 32 ∧ ∀ y ∈ l, y < 256) ∧ ∀ j y, (nums .u8 l)[j]? = some y → W.cell? ((x0.add (i * 32)).add j) = some y := by
      intro i him
      obtain ⟨cs', hc, htr⟩ := hi i him
      obtain ⟨_, hcl, hat⟩ := World.cells?_some hc
      obtain ⟨l, rfl, h1, h2⟩ := trod_bytesI hu he hone hsz htr
      refine ⟨l, ⟨h1, h2⟩, fun j y hj => ?_⟩
      have hj16 : j < 32 := by
        have := (List.getElem?_eq_some_iff.1 hj).1
        rw [nums_len, h1] at this
        exact this
      rw [hat j hj16]
      exact hj
    let F : Nat → List Nat := fun i => if h : i < m then (hE i h).choose else []
    have hF : ∀ i, i < m → ((F i).length = 32 ∧ ∀ y ∈ F i, y < 256) ∧ ∀ j y, (nums .u8 (F i))[j]? = some y → W.cell? ((x0.add (i * 32)).add j) = some y := by
      intro i him
      show ((if h : i < m then (hE i h).choose else []).length = 32 ∧ _) ∧ _
      simp only [F, dif_pos him]
      exact (hE i him).choose_spec
    have hlen : ((List.range len0).map F).length = len0 := by simp
    refine ⟨some x0, (List.range len0).map F, m, by rw [hlen], ?_, ?_, by rw [hlen]; omega, fun h => by cases h⟩
    · by_cases h0 : len0 = 0
      · subst h0; exact Or.inl rfl
      · have h1 := hF 0 (by omega)
        obtain ⟨b, o, spot⟩ := x0
        have hc0 := h1.2 0 ((nums .u8 (F 0))[0]'(by rw [nums_len, h1.1.1]; decide)) (List.getElem?_eq_getElem _)
        have hspot : spot = none := by simpa [Addr.add] using World.cell?_spot hc0
        subst hspot
        refine Or.inr ⟨b, o, rfl, ?_, fun i hi2 j y hj => ?_⟩
        · have := block_lt_of_cell hc0
          simpa [Addr.add] using this
        · rw [hlen] at hi2
          have hg : ((List.range len0).map F).getD i [] = F i := by rw [List.getD_eq_getElem?_getD, List.getElem?_map, List.getElem?_range hi2]; rfl
          rw [hg] at hj
          have := (hF i (by omega)).2 j y hj
          rw [Addr.add_mid, Addr.add_mid] at this
          rw [Nat.mul_comm 32 i]
          exact this
    · intro z hz
      obtain ⟨i, hi2, rfl⟩ := List.mem_map.1 hz
      exact (hF i (by have := List.mem_range.1 hi2; omega)).1
/-- A slice of arrays of thirty-two bytes that came in. -/
theorem open_ids {H : Type} {enc : TypeId × Value → H} {P : Program} {W : World} {v : Value} {d : DataW H} {p : List MemPlace} {base : Nat} {t e u : TypeId}
    (ht : P.underlying t = some (.slice e)) (hu : P.underlying e = some (.array 32 u)) (he : P.underlying u = some (.int .u8)) (hone : P.cellsOf u = 1) (hsz : P.cellsOf e = 32) (hb16 : P.bytesOf e = 32)
    (hv : Value.okWide P W .any base t v) (h : DataW.Trod enc P W 0 (fun _ => true) true t v d p) (hwt : ∀ n ∈ DataW.weights P t d, n ≤ 140737488351232) :
    ∃ (ao : Option Addr) (L : List (List Nat)) (cap : Nat), v = .slice ao L.length cap ∧ IAt ao L W ∧ Ids L ∧ L.length ≤ 4398046510976 ∧ (ao = none → cap = 0) := by
  obtain ⟨a0, len0, cap0, rfl⟩ := okWide_slice ht hv
  obtain ⟨fuel, hf⟩ := h
  exact open_ids_row ht hu he hone hsz hb16 (v := .slice a0 len0 cap0) hf hwt

/-! ### Rows that the call makes whole, and stores into them -/
theorem Ids.set {L : List (List Nat)} (h : Ids L) (i : Nat) {x : List Nat} (hx : x.length = 32) (lx : ∀ y ∈ x, y < 256) : Ids (L.set i x) := fun z hz => by
  rcases List.mem_or_eq_of_mem_set hz with hz | rfl
  · exact h z hz
  · exact ⟨hx, lx⟩
theorem Ids.zeros (n : Nat) : Ids (List.replicate n (List.replicate 32 0)) := fun z hz => by
  obtain rfl := (List.mem_replicate.1 hz).2
  exact ⟨rfl, by decide⟩
theorem flatI_zeros (n : Nat) : flatI (List.replicate n (List.replicate 32 0)) = List.replicate (n * 32) (.int .u8 0) := by
  induction n with
  | zero => rfl
  | succ n ih =>
    rw [List.replicate_succ, flatI, List.flatMap_cons]
    rw [show nums .u8 (List.replicate 32 0) = List.replicate 32 (.int .u8 0) from rfl]
    have ih' : List.flatMap (nums .u8) (List.replicate n (List.replicate 32 0)) = List.replicate (n * 32) (.int .u8 0) := ih
    rw [ih', List.replicate_append_replicate]
    congr 1
    omega
theorem madeCells_32 (n : Nat) : (madeCells (Value.agg (nums .u8 (List.replicate 32 0)).toArray).cells (n * 32)).toList = flatI (List.replicate n (List.replicate 32 0)) := by
  rw [flatI_zeros]
  refine List.ext_getElem (by simp [madeCells]) fun j h1 h2 => ?_
  have hz : (Value.agg (nums .u8 (List.replicate 32 0)).toArray).cells = Array.replicate 32 (.int .u8 0) := rfl
  simp only [madeCells, hz, Array.getElem_toList, Array.getElem_map, Array.getElem_range, List.getElem_replicate, Array.size_replicate]
  have hj : j % 32 < 32 := Nat.mod_lt _ (by decide)
  rw [getElem!_pos _ _ (by simpa using hj), Array.getElem_replicate]
theorem OwnI.made {B g n : Nat} {e : TypeId} {w : World} (h : w.ownsRow B e 32 (.slice (some ⟨g, 0, none⟩) n n) n (madeCells (Value.agg (nums .u8 (List.replicate 32 0)).toArray).cells (n * 32)).toList) :
    OwnI B e (.slice (some ⟨g, 0, none⟩) n n) (List.replicate n (List.replicate 32 0)) w := by
  unfold OwnI
  rw [List.length_replicate, ← madeCells_32]
  exact h

/-- A list with others laid into it from a place on. -/
def layLI (xs : List Value) : Nat → List Value → List Value
  | _, [] => xs
  | o, v :: r => layLI (xs.set o v) (o + 1) r
theorem layL_lenI : ∀ (vs : List Value) (xs : List Value) (o : Nat), (layLI xs o vs).length = xs.length
  | [], _, _ => rfl
  | v :: r, xs, o => by rw [layLI, layL_lenI r, List.length_set]
theorem layL_getI : ∀ (vs : List Value) (xs : List Value) (o j : Nat), o + vs.length ≤ xs.length → (layLI xs o vs)[j]? = if o ≤ j ∧ j < o + vs.length then vs[j - o]? else xs[j]?
  | [], xs, o, j, _ => by rw [layLI, if_neg (by simp only [List.length_nil]; omega)]
  | v :: r, xs, o, j, h => by
    simp only [List.length_cons] at h ⊢
    rw [layLI, layL_getI r (xs.set o v) (o + 1) j (by rw [List.length_set]; omega)]
    by_cases h1 : o + 1 ≤ j ∧ j < o + 1 + r.length
    · rw [if_pos h1, if_pos (by omega), show j - o = (j - (o + 1)) + 1 by omega, List.getElem?_cons_succ]
    · rw [if_neg h1]
      by_cases h2 : j = o
      · subst h2
        rw [if_pos (by omega), Nat.sub_self, List.getElem?_set_self (by omega)]
        rfl
      · rw [if_neg (by omega), List.getElem?_set_ne (by omega)]
theorem flatI_set {L : List (List Nat)} (hL : Ids L) {i : Nat} (hi : i < L.length) {x : List Nat} (hx : x.length = 32) (lx : ∀ y ∈ x, y < 256) : flatI (L.set i x) = layLI (flatI L) (32 * i) (nums .u8 x) := by
  have hnx : (nums .u8 x).length = 32 := by rw [nums_len, hx]
  have hfl := flatI_len hL
  have hS := hL.set i hx lx
  have hfs := flatI_len hS
  rw [List.length_set] at hfs
  refine List.ext_getElem? fun j => ?_
  rw [layL_getI _ _ _ _ (by rw [hnx, hfl]; omega), hnx]
  rcases Nat.lt_or_ge j (L.length * 32) with hj | hj
  · obtain ⟨q, m, rfl, hm⟩ : ∃ q m, j = 32 * q + m ∧ m < 32 := ⟨j / 32, j % 32, by omega, Nat.mod_lt _ (by decide)⟩
    rw [flatI_get hS (by rw [List.length_set]; omega) hm, flatI_get hL (by omega) hm]
    by_cases hq : q = i
    · subst hq
      rw [if_pos (by omega), show 32 * q + m - 32 * q = m by omega]
      simp [List.getD_eq_getElem?_getD, List.getElem?_set_self hi]
    · rw [if_neg (by omega)]
      simp [List.getD_eq_getElem?_getD, List.getElem?_set_ne (Ne.symm hq)]
  · rw [if_neg (by omega), List.getElem?_eq_none (by omega), List.getElem?_eq_none (by omega)]
theorem ownsRow_layI {B g n c size : Nat} {e : TypeId} : ∀ (vs xs : List Value) (o : Nat) (w : World), w.ownsRow B e size (.slice (some ⟨g, 0, none⟩) n c) n xs → (w.setCells g o vs).ownsRow B e size (.slice (some ⟨g, 0, none⟩) n c) n (layLI xs o vs)
  | [], _, _, _, h => h
  | v :: r, _, o, _, h => ownsRow_layI r _ (o + 1) _ (World.ownsRow.stored h o v).1
/-- An element is stored into a row of the call's own. -/
theorem OwnI.set {B g n c i : Nat} {e : TypeId} {L : List (List Nat)} {w : World} (hn : n = L.length) (h : OwnI B e (.slice (some ⟨g, 0, none⟩) n c) L w) (hL : Ids L) (hi : i < n) {x : List Nat} (hx : x.length = 32) (lx : ∀ y ∈ x, y < 256) :
    OwnI B e (.slice (some ⟨g, 0, none⟩) n c) (L.set i x) (w.setCells g (32 * i) (nums .u8 x)) := by
  subst hn
  have h1 := ownsRow_layI (nums .u8 x) _ (32 * i) w h
  unfold OwnI
  rw [List.length_set, flatI_set hL hi hx lx]
  exact h1
theorem OwnI.there {B g n c i : Nat} {e : TypeId} {L : List (List Nat)} {w : World} (hn : n = L.length) (h : OwnI B e (.slice (some ⟨g, 0, none⟩) n c) L w) (hL : Ids L) (hi : i < n) : w.there g (32 * i) 32 := by
  subst hn
  intro j hj
  exact ⟨by rw [World.ownsRow.cellAt h (32 * i + j) (by omega), List.getElem?_eq_getElem (by rw [flatI_len hL]; omega)]; rfl, World.ownsRow.frozenAt h (32 * i + j)⟩
theorem But.setCellsI {b : Nat} {w : World} : ∀ (vs : List Value) (o : Nat) (w' : World), But b w w' → But b w (w'.setCells b o vs)
  | [], _, _, h => h
  | v :: r, o, _, h => But.setCellsI r (o + 1) _ (h.setCell o v)
/-- A store of an element into a row of the call's own. -/
theorem wpList_store_id {P : Program} {w : World} {ops : Array Oper} {rest : List Oper} {o : Oper} {a : Act} {Q : Exit → Act → World → Prop} (hgd : o.guard = none) (ty : TypeId) (x y : Operand) (ho : o.op = .store ty x y) (hd : o.dst = none)
    (B g n c i off : Nat) (e : TypeId) (L : List (List Nat)) (l : List Nat) (hn : n = L.length) (hoff : off = 32 * i) (hx : a.eval x = .pointer (some ⟨g, off, none⟩)) (hy : a.eval y = .agg (nums .u8 l).toArray)
    (hO : OwnI B e (.slice (some ⟨g, 0, none⟩) n c) L w) (hL : Ids L) (hi : i < n) (hl : l.length = 32) (ll : ∀ y ∈ l, y < 256) (hty : (P.info? ty).map (·.size) = some 32)
    (h : ∀ w', Hid (OwnI B e (.slice (some ⟨g, 0, none⟩) n c) (L.set i l) w') → Hid (But g w w') → wpList P ops Q rest a w') : wpList P ops Q (o :: rest) a w := by
  subst hoff
  have hs : (nums .u8 l).toArray.size = 32 := by rw [List.size_toArray, nums_len, hl]
  refine wpList_store_mid hgd ty x y ho g (32 * i) _ hx hy (by rw [hs]; exact hO.there hn hL hi) (by rw [hs]; exact hty) (all_oneCell_toArray (nums_one _ _)) ?_
  rw [hd]
  refine h _ ?_ ?_
  · exact (hO.set hn hL hi hl ll)
  · exact (But.setCellsI _ _ _ (But.refl _ _))
theorem rangeAt_belowI {b o B : Nat} {cs : List Value} {w w' : World} (h : w.rangeAt b o cs) (hb : Below B w w') (hB : b < B) : w'.rangeAt b o cs := fun j v hv => (hb.cell (p := ⟨b, o + j, none⟩) hB).trans (h j v hv)

/-! ### A literal of one element; one byte of an element -/
theorem Tryd.infoI32 : (Tryd.prog.info? 25).map (fun i => (i.zero, i.size, i.bytes)) = some (some (.agg (nums .u8 (List.replicate 32 0)).toArray), 32, 32) := by kernel_rfl
/-- A literal slice of one element. -/
theorem wpList_build_id {P : Program} {ops : Array Oper} {rest : List Oper} {o : Oper} {a : Act} {w : World} {Q : Exit → Act → World → Prop} (hg : o.guard = none) (t e : TypeId) (x : Operand) (ho : o.op = .buildSlice t 1 #[(0, x)])
    (l : List Nat) (hx : a.eval x = .agg (nums .u8 l).toArray) (hl : l.length = 32) (ht : P.underlying t = some (.slice e)) (hinfo : (P.info? e).map (fun i => (i.zero, i.size, i.bytes)) = some (some (.agg (nums .u8 (List.replicate 32 0)).toArray), 32, 32))
    (h : ∀ w', Hid (Blk w.heap.size e .u8 l w') → Hid (Below w.heap.size w w') → wpList P ops Q rest (a.put o.dst (.slice (some ⟨w.heap.size, 0, none⟩) 1 1)) w') : wpList P ops Q (o :: rest) a w := by
  obtain ⟨ie, hi, hz0, hz1, _⟩ := info_parts hinfo
  refine wpList_buildSlice hg t e 1 #[(0, x)] ho (nums .u8 l).toArray ie _ ht hi hz0 (by rw [hz1]; decide) (by rw [hz1]; decide) ?_ (h _ (heap_alloc_new w _) ((Below.refl _ w).alloc (Nat.le_refl _) _))
  rw [hz1]
  have h1 := Great.fill_whole (s := 32) (by decide) [Value.agg (nums .u8 l).toArray] ((Array.range (1 * 32)).map ((Value.agg (nums .u8 (List.replicate 32 0)).toArray).cells[· % (Value.agg (nums .u8 (List.replicate 32 0)).toArray).cells.size]!))
    (fun v hv => by obtain rfl := List.mem_singleton.1 hv; show (nums .u8 l).toArray.size = 32; rw [List.size_toArray, nums_len, hl]) (by simp)
  have e1 : ((#[(0, x)] : Array (Nat × Operand)).map fun (i, x) => (i, a.eval x)).toList = ([Value.agg (nums .u8 l).toArray].zipIdx 0).map fun x => (x.2, x.1) := by
    simp [hx, List.zipIdx_cons]
  have e2 : ([Value.agg (nums .u8 l).toArray].flatMap fun v => v.cells.toList).toArray = (nums .u8 l).toArray := by
    rw [List.flatMap_cons, List.flatMap_nil, List.append_nil]
    rfl
  rw [e1, h1, e2]
theorem take_nextI {L : List (List Nat)} {k : Nat} (h : k < L.length) : L.take (k + 1) = L.take k ++ [L.getD k []] := by
  rw [List.take_succ_eq_append_getElem h, List.getD_eq_getElem?_getD, List.getElem?_eq_getElem h]
  rfl
theorem take_lenI {L : List (List Nat)} {k : Nat} (h : k ≤ L.length) : (L.take k).length = k := by rw [List.length_take]; omega
theorem iAt_one {g : Nat} {t : TypeId} {x : List Nat} {w : World} (h : Blk g t .u8 x w) : IAt (some ⟨g, 0, none⟩) [x] w := by
  refine .inr ⟨g, 0, rfl, h.lt, fun i hi j v hv => ?_⟩
  obtain rfl : i = 0 := by simpa using hi
  have := blk_news h j v hv
  rw [Addr.add_lit] at this
  simpa using this
theorem OwnI.byte {B g n c i j : Nat} {e : TypeId} {L : List (List Nat)} {w : World} (hn : n = L.length) (h : OwnI B e (.slice (some ⟨g, 0, none⟩) n c) L w) (hL : Ids L) (hi : i < n) (hj : j < 32) :
    w.cell? ⟨g, i * 32 + j, none⟩ = some (.int .u8 (((L.getD i []).getD j 0 : Nat) : Int)) := by
  subst hn
  have hx := (hL.getD hi).1
  rw [World.ownsRow.cellAt h (i * 32 + j) (by omega), Nat.mul_comm, flatI_get hL hi hj, nums, List.getElem?_map, List.getElem?_eq_getElem (by omega), List.getD_eq_getElem?_getD (l := L.getD i []), List.getElem?_eq_getElem (by omega)]
  rfl
theorem OwnI.frozenByte {B g n c : Nat} {e : TypeId} {L : List (List Nat)} {w : World} (hn : n = L.length) (h : OwnI B e (.slice (some ⟨g, 0, none⟩) n c) L w) (o : Nat) : w.frozen? ⟨g, o, none⟩ = false := by
  subst hn
  exact World.ownsRow.frozenAt h o
theorem set_ltI {x : List Nat} (hx : ∀ y ∈ x, y < 256) (j : Nat) {z : Nat} (hz : z < 256) : ∀ y ∈ x.set j z, y < 256 := fun y hy => by
  rcases List.mem_or_eq_of_mem_set hy with h | rfl
  · exact hx y h
  · exact hz
theorem flatI_byte {L : List (List Nat)} (hL : Ids L) {i j z : Nat} (hi : i < L.length) (hj : j < 32) (hz : z < 256) : flatI (L.set i ((L.getD i []).set j z)) = (flatI L).set (i * 32 + j) (.int .u8 (z : Int)) := by
  obtain ⟨hx1, hx2⟩ := hL.getD hi
  have hfl := flatI_len hL
  have hs1 : ((L.getD i []).set j z).length = 32 := by rw [List.length_set, hx1]
  have hns : (nums .u8 ((L.getD i []).set j z)).length = 32 := by rw [nums_len, hs1]
  rw [flatI_set hL hi hs1 (set_ltI hx2 j hz)]
  refine List.ext_getElem? fun q => ?_
  rw [layL_getI _ _ _ _ (by rw [hns, hfl]; omega), hns]
  by_cases hq : 32 * i ≤ q ∧ q < 32 * i + 32
  · rw [if_pos hq]
    obtain ⟨m, rfl, hm⟩ : ∃ m, q = 32 * i + m ∧ m < 32 := ⟨q - 32 * i, by omega, by omega⟩
    rw [show 32 * i + m - 32 * i = m by omega, nums, List.map_set]
    by_cases hmj : m = j
    · subst hmj
      rw [List.getElem?_set_self (by rw [List.length_map]; omega), show i * 32 + m = 32 * i + m by omega, List.getElem?_set_self (by omega)]
    · rw [List.getElem?_set_ne (Ne.symm hmj), List.getElem?_set_ne (by omega), flatI_get hL hi hm]
      rfl
  · rw [if_neg hq, List.getElem?_set_ne (by omega)]
/-- One byte of an element is stored. -/
theorem OwnI.setByte {B g n c i j z : Nat} {e : TypeId} {L : List (List Nat)} {w : World} (hn : n = L.length) (h : OwnI B e (.slice (some ⟨g, 0, none⟩) n c) L w) (hL : Ids L) (hi : i < n) (hj : j < 32) (hz : z < 256) :
    OwnI B e (.slice (some ⟨g, 0, none⟩) n c) (L.set i ((L.getD i []).set j z)) (w.setCell ⟨g, i * 32 + j, none⟩ (.int .u8 (z : Int))) := by
  subst hn
  have h1 := (World.ownsRow.stored h (i * 32 + j) (.int .u8 (z : Int))).1
  unfold OwnI
  rw [List.length_set, flatI_byte hL hi hj hz]
  exact h1
theorem Ids.setByte {L : List (List Nat)} (hL : Ids L) {i j z : Nat} (hi : i < L.length) (hz : z < 256) : Ids (L.set i ((L.getD i []).set j z)) := by
  obtain ⟨hx1, hx2⟩ := hL.getD hi
  exact hL.set i (by rw [List.length_set, hx1]) (set_ltI hx2 j hz)
theorem equal_idI (a b : List Nat) (ha : a.length = 32) (hb : b.length = 32) (la : ∀ x ∈ a, x < 256) (lb : ∀ x ∈ b, x < 256) (w : World) :
    (Op.equalIn 10000 25 (.agg (nums .u8 a).toArray) (.agg (nums .u8 b).toArray)).run Tryd.prog w = .ok (a == b) w :=
  equal_nums _ _ _ Tryd.underlying25 Tryd.underlying5 Tryd.sizeOf5 a b ha hb la lb w
end Go.Proofs.YthgfpojfnhkckaaDoor
