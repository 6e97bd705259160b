/-
  Joined: Rows of elements of thirty-two bytes: what lies there, what is pushed, stored and read; a slice of arrays that came in.; Objects that live in memory of their own: what a call turns (Only), what it owns behind it (Turn); rows of values of one cell (RowV).; Operations of a region whose order is open, one by one (for the steps of wp_region_free): fields, loads, conversions, literal slices of one value, values pushed.; Drafts and operations as values.; Structs built: a literal of any struct type by its layout (wpList_build_val, quiet_build_val, op_build_val: the value as an equation of P.built).; Drafts and operations built.; Drafts compared.
-/
import Derived.Deep.MidRow
import Derived.Deep.Slices
import Derived.Great.BuildSlice
import Derived.Laws.BytesString
import Derived.Laws.DeepStrings4
import Derived.Laws.StructEq
import Derived.OpenShut
import Derived.Test.YtandadfphlandaaGreatDoorJ01
import Derived.Test.YtandadfphlandaaGreatDoorJ03
namespace Go.Proofs.YtandadfphlandaaGreatDoor
open Go.RowKit Go.ChangeShapes Go.WideShapes
def Ids (L : List (List Nat)) : Prop := ∀ x ∈ L, x.length = 32 ∧ ∀ y ∈ x, y < 256
theorem Ids.nil : Ids [] := fun x hx => by cases hx
theorem Ids.getD {L : List (List Nat)} (h : Ids L) {i : Nat} (hi : i < L.length) : (L.getD i []).length = 32 ∧ ∀ y ∈ L.getD i [], y < 256 := by
  rw [List.getD_eq_getElem?_getD, List.getElem?_eq_getElem hi]
  exact h _ (List.getElem_mem hi)
theorem Ids.append {L M : List (List Nat)} (h : Ids L) (k : Ids M) : Ids (L ++ M) := fun x hx => (List.mem_append.1 hx).elim (h x) (k x)
theorem Ids.one {x : List Nat} (h : x.length = 32) (k : ∀ y ∈ x, y < 256) : Ids [x] := fun z hz => by
  obtain rfl := List.mem_singleton.1 hz
  exact ⟨h, k⟩
theorem Ids.take {L : List (List Nat)} (h : Ids L) (n : Nat) : Ids (L.take n) := fun x hx => h x (List.mem_of_mem_take hx)
theorem Ids.drop {L : List (List Nat)} (h : Ids L) (n : Nat) : Ids (L.drop n) := fun x hx => h x (List.mem_of_mem_drop hx)
def IAt (ao : Option Addr) (L : List (List Nat)) (w : World) : Prop :=
  L = [] ∨ ∃ b o, ao = some ⟨b, o, none⟩ ∧ b < w.heap.size ∧ ∀ i, i < L.length → w.rangeAt b (o + 32 * i) (nums .u8 (L.getD i []))
theorem IAt.below {ao : Option Addr} {L : List (List Nat)} {w w' : World} (h : IAt ao L w) (hb : Below w.heap.size w w') : IAt ao L w' := by
  rcases h with h | ⟨b, o, h1, h2, h3⟩
  · exact .inl h
  · exact .inr ⟨b, o, h1, Nat.lt_of_lt_of_le h2 hb.size, fun i hi j v hv => (hb.cell (p := ⟨b, o + 32 * i + j, none⟩) h2).trans (h3 i hi j v hv)⟩
theorem IAt.get {b o : Nat} {L : List (List Nat)} {w : World} (h : IAt (some ⟨b, o, none⟩) L w) {i : Nat} (hi : i < L.length) : w.rangeAt b (o + i * 32) (nums .u8 (L.getD i [])) := by
  rcases h with rfl | ⟨b', o', h1, _, h3⟩
  · cases hi
  · simp only [Option.some.injEq, Addr.mk.injEq] at h1
    obtain ⟨rfl, rfl, _⟩ := h1
    rw [Nat.mul_comm]
    exact h3 i hi
theorem IAt.some {ao : Option Addr} {L : List (List Nat)} {w : World} (h : IAt ao L w) (h0 : 0 < L.length) : ∃ b o, ao = some ⟨b, o, none⟩ ∧ b < w.heap.size := by
  rcases h with rfl | ⟨b, o, h1, h2, _⟩
  · cases h0
  · exact ⟨b, o, h1, h2⟩
def flatI (L : List (List Nat)) : List Value := L.flatMap (nums .u8)
theorem flatI_len {L : List (List Nat)} (h : Ids L) : (flatI L).length = L.length * 32 := by
  induction L with
  | nil => rfl
  | cons x L ih =>
    have h1 := (h x (by simp)).1
    have h2 := ih fun y hy => h y (by simp [hy])
    simp only [flatI, List.flatMap_cons, List.length_append, nums_len, List.length_cons] at *
    omega
theorem flatI_append (L M : List (List Nat)) : flatI (L ++ M) = flatI L ++ flatI M := by simp [flatI]
theorem flatI_all (L : List (List Nat)) : ∀ u ∈ flatI L, u.oneCell' = true := by
  intro u hu
  simp only [flatI, List.mem_flatMap] at hu
  obtain ⟨x, _, hx⟩ := hu
  exact nums_one .u8 x u hx
theorem flatI_get {L : List (List Nat)} (h : Ids L) : ∀ {i j : Nat}, i < L.length → j < 32 → (flatI L)[32 * i + j]? = (nums .u8 (L.getD i []))[j]? := by
  induction L with
  | nil => intro i j hi _; cases hi
  | cons x L ih =>
    intro i j hi hj
    have h1 := (h x (by simp)).1
    have hx : (nums .u8 x).length = 32 := by rw [nums_len, h1]
    rw [flatI, List.flatMap_cons]
    cases i with
    | zero => rw [Nat.mul_zero, Nat.zero_add, List.getElem?_append_left (by omega)]; rfl
    | succ i =>
      rw [List.getElem?_append_right (by omega), hx, show 32 * (i + 1) + j - 32 = 32 * i + j by omega]
      exact ih (fun y hy => h y (by simp [hy])) (by simpa using hi) hj
def OwnI (B : Nat) (e : TypeId) (v : Value) (L : List (List Nat)) (w : World) : Prop := w.ownsRow B e 32 v L.length (flatI L)
theorem OwnI.nil (B : Nat) (e : TypeId) (w : World) : OwnI B e (.slice none 0 0) [] w := World.ownsRow_nil _ _ _ _
theorem OwnI.form {B : Nat} {e : TypeId} {v : Value} {L : List (List Nat)} {w : World} (h : OwnI B e v L w) : ∃ ao cap, v = .slice ao L.length cap := by
  rcases h.2 with ⟨h1, h2⟩ | ⟨g, cap, _, h1, _⟩
  · exact ⟨_, _, by rw [h1, h2]⟩
  · exact ⟨_, _, h1⟩
theorem OwnI.formB {B : Nat} {e : TypeId} {v : Value} {L : List (List Nat)} {w : World} (h : OwnI B e v L w) (h0 : 0 < L.length) : ∃ g cap, v = .slice (some ⟨g, 0, none⟩) L.length cap ∧ B ≤ g ∧ g < w.heap.size := by
  rcases h.2 with ⟨_, h2⟩ | ⟨g, cap, cur, h1, h2, h3, _⟩
  · omega
  · exact ⟨g, cap, h1, h2, lt_of_block h3⟩
theorem OwnI.below {B : Nat} {e : TypeId} {v : Value} {L : List (List Nat)} {w w' : World} (h : OwnI B e v L w) (b : Below w.heap.size w w') : OwnI B e v L w' := by
  refine ⟨h.1, ?_⟩
  rcases h.2 with h2 | ⟨g, cap, cur, h1, h2, h3, h4⟩
  · exact .inl h2
  · exact .inr ⟨g, cap, cur, h1, h2, (b.block g (lt_of_block h3)).trans h3, h4⟩
theorem OwnI.mono {B B' : Nat} {e : TypeId} {v : Value} {L : List (List Nat)} {w : World} (h : OwnI B e v L w) (hB : B' ≤ B) : OwnI B' e v L w := by
  refine ⟨h.1, ?_⟩
  rcases h.2 with h2 | ⟨g, cap, cur, h1, h2, h3⟩
  · exact .inl h2
  · exact .inr ⟨g, cap, cur, h1, Nat.le_trans hB h2, h3⟩
theorem OwnI.but {B b : Nat} {e : TypeId} {v : Value} {L : List (List Nat)} {w w' : World} (h : OwnI B e v L w) (hb : But b w w') (ap : ∀ g, v.ownBlock = some g → b ≠ g) : OwnI B e v L w' := by
  refine ⟨h.1, ?_⟩
  rcases h.2 with h2 | ⟨g, cap, cur, h1, h2, h3, h4⟩
  · exact .inl h2
  · exact .inr ⟨g, cap, cur, h1, h2, (hb.block g (lt_of_block h3) (fun e => ap g (by rw [h1]; rfl) e.symm)).trans h3, h4⟩
theorem OwnI.at {B : Nat} {e : TypeId} {ao : Option Addr} {n c : Nat} {L : List (List Nat)} {w : World} (h : OwnI B e (.slice ao n c) L w) (hL : Ids L) : IAt ao L w := by
  by_cases h0 : L = []
  · exact .inl h0
  · obtain ⟨g, cap, hv, _, hg⟩ := h.formB (List.length_pos_iff.2 h0)
    obtain rfl : ao = some ⟨g, 0, none⟩ := by injection hv
    refine .inr ⟨g, 0, rfl, hg, fun i hi j v hj => ?_⟩
    have hc := World.ownsRow.cells h (g := g) rfl (32 * i + j) v
    have hj16 : j < 32 := by
      have := (List.getElem?_eq_some_iff.1 hj).1
      rw [nums_len, (hL.getD hi).1] at this
      exact this
    rw [flatI_get hL hi hj16, Addr.add_lit, Nat.zero_add] at hc
    rw [Nat.zero_add]
    exact hc hj
theorem wpList_append_ids {P : Program} {w : World} {ops : Array Oper} {rest : List Oper} {o : Oper} {a : Act} {Q : Exit → Act → World → Prop} (hgd : o.guard = none) (s x : Operand) (t e : TypeId)
    (ho : o.op = .call { callee := .builtin .append, args := #[s, x], argTypes := #[t, t] })
    (B : Nat) (z : Value) (hzs : z.cells.size = 32) (ht : P.underlying t = some (.slice e)) (hinfo : (P.info? e).map (fun i => (i.zero, i.size, i.bytes)) = some (some z, 32, 32))
    (v : Value) (L M : List (List Nat)) (hM : Ids M) (ad : Addr) (n c : Nat) (hn : n = M.length) (hs : a.eval s = v) (hown : OwnI B e v L w) (hx : a.eval x = .slice (some ad) n c) (hnews : ∀ j u, (flatI M)[j]? = some u → w.cell? (ad.add j) = some u)
    (h63 : L.length + M.length ≤ 4398046511104) (hB : B ≤ w.heap.size)
    (h : ∀ v' w', Hid (OwnI B e v' (L ++ M) w') → Hid (Below B w w') → wpList P ops Q rest (a.put o.dst v') w') : wpList P ops Q (o :: rest) a w := by
  obtain ⟨i, hi, hz0, hz1, hz2⟩ := info_parts hinfo
  subst hn
  refine wpList_append_own_at w hgd s x _ ho B e i z 32 32 ht hi hz0 hz1 hz2 hzs (by decide) v L.length (flatI L) hs hown ad M.length c (flatI M) hx (flatI_len hM) hnews (flatI_all M) (by unfold maxLen; omega) (by omega) hB ?_
  intro v' w' h2 hg _ _
  refine h v' w' ?_ ((Below.refl B w).grown hg hB (fun k hk => (World.ownsRow.lt hown k hk).1))
  show w'.ownsRow B e 32 v' (L ++ M).length (flatI (L ++ M))
  rw [List.length_append, flatI_append]
  exact h2
theorem wpList_load_id {P : Program} {ops : Array Oper} {rest : List Oper} {o : Oper} {a : Act} {w : World} {Q : Exit → Act → World → Prop} (hgd : o.guard = none) (ty : TypeId) (x : Operand) (ho : o.op = .load ty x)
    (b off : Nat) (l : List Nat) (d : TypeDesc) (hx : a.eval x = .pointer (some ⟨b, off, none⟩)) (hc : w.rangeAt b off (nums .u8 l))
    (hu : P.underlying ty = some d) (hd : d.isRow = true) (hi : (P.info? ty).map (·.size) = some l.length)
    (h : wpList P ops Q rest (a.put o.dst (.agg (nums .u8 l).toArray)) w) : wpList P ops Q (o :: rest) a w :=
  wpList_load_mid hgd ty x ho b off hx _ d hc hu hd (by rw [nums_len]; exact hi) h
theorem quiet_load_id {P : Program} {o : Oper} {a : Act} {C : World → Prop} {K : Act → Prop} (ty : TypeId) (x : Operand) (ho : o.op = .load ty x) (b off : Nat) (l : List Nat) (d : TypeDesc)
    (hx : a.eval x = .pointer (some ⟨b, off, none⟩)) (hC : ∀ w, C w → w.rangeAt b off (nums .u8 l)) (hu : P.underlying ty = some d) (hd : d.isRow = true) (hi : (P.info? ty).map (·.size) = some l.length)
    (hk : K (a.put o.dst (.agg (nums .u8 l).toArray))) : o.quiet P a C K := by
  refine ⟨_, fun w hw => ?_, hk⟩
  unfold Oper.quietAt execOp
  simp only [ho, hx, Instr.loadAt, Instr.sureAddr, Sem.run_bind, Sem.run_pure, Result.andThen_ok, run_loadVar_mid w b off ty _ d (hC w hw) hu hd (by rw [nums_len]; exact hi)]
  exact ⟨rfl, rfl⟩
theorem op_load_id {P : Program} {o : Oper} {a : Act} {w : World} {K : Act → World → Prop} {Q : Exit → Act → World → Prop} (ty : TypeId) (x : Operand) (ho : o.op = .load ty x) (b off : Nat) (l : List Nat) (d : TypeDesc)
    (hx : a.eval x = .pointer (some ⟨b, off, none⟩)) (hc : w.rangeAt b off (nums .u8 l)) (hu : P.underlying ty = some d) (hd : d.isRow = true) (hi : (P.info? ty).map (·.size) = some l.length)
    (h : K (a.put o.dst (.agg (nums .u8 l).toArray)) w) : OpWp P o a w K Q := by
  refine ⟨?_⟩
  unfold Oper.wp execOp
  simp only [ho, hx, Instr.loadAt, Instr.sureAddr, Sem.run_bind, Sem.run_pure, Result.andThen_ok, run_loadVar_mid w b off ty _ d hc hu hd (by rw [nums_len]; exact hi)]
  exact h
theorem trod_bytesI {H : Type} {enc : TypeId × Value → H} {P : Program} {W : World} {t e : TypeId} {n base fuel : Nat} {sp : Nat → Bool} {held : Bool} {cs : List Value} {x : DataW H × List MemPlace}
    (hu : P.underlying t = some (.array n e)) (he : P.underlying e = some (.int .u8)) (hone : P.cellsOf e = 1) (hsz : P.cellsOf t = n) (h : DataW.trod enc P W base sp held fuel t cs = some x) :
    ∃ l : List Nat, cs = nums .u8 l ∧ l.length = n ∧ ∀ y ∈ l, y < 256 := by
  obtain ⟨xs, m, _, _, hcl, hxl, hat⟩ := DataW.trod_array hu h
  rw [hsz] at hcl
  have key : ∀ i, i < n → ∃ z : Int, cs[i]? = some (.int .u8 z) ∧ 0 ≤ z ∧ z ≤ 255 := by
    intro i hi
    have h1 := hat i hi
    rw [hone, Nat.mul_one, List.getElem?_eq_getElem (by omega)] at h1
    obtain ⟨z, hz, _, hw⟩ := DataW.trod_int he h1
    refine ⟨z, ?_, ?_⟩
    · have := congrArg (fun l => l[0]?) hz
      simpa [List.getElem?_drop, List.getElem?_take] using this
    · simp only [Lit.wf, Bool.and_eq_true, decide_eq_true_eq] at hw
      exact ⟨hw.1, hw.2⟩
  refine ⟨cs.map fun v => (intOf v).toNat, ?_, by simp [hcl], ?_⟩
  · refine List.ext_getElem? fun i => ?_
    rw [nums, List.getElem?_map, List.getElem?_map]
    rcases Nat.lt_or_ge i n with hi | hi
    · obtain ⟨z, h1, h2, h3⟩ := key i hi
      rw [h1]
      simp [intOf]
      omega
    · rw [List.getElem?_eq_none (by omega)]
      rfl
  · intro y hy
    obtain ⟨v, hv, rfl⟩ := List.mem_map.1 hy
    obtain ⟨i, hi, rfl⟩ := List.mem_iff_getElem.1 hv
    obtain ⟨z, h1, h2, h3⟩ := key i (by omega)
    rw [List.getElem?_eq_getElem hi] at h1
    obtain h1 := Option.some.inj h1
    rw [h1]
    simp [intOf]
    omega
theorem open_ids_row {H : Type} {enc : TypeId × Value → H} {P : Program} {W : World} {v : Value} {fuel : Nat} {x : DataW H × List MemPlace} {t e u : TypeId}
    (ht : P.underlying t = some (.slice e)) (hu : P.underlying e = some (.array 32 u)) (he : P.underlying u = some (.int .u8)) (hone : P.cellsOf u = 1) (hsz : P.cellsOf e = 32) (hb16 : P.bytesOf e = 32)
    (hf : DataW.trod enc P W 0 (fun _ => true) true fuel t [v] = some x) (hwt : ∀ n ∈ DataW.weights P t x.1, n ≤ 140737488351232) :
    ∃ (ao : Option Addr) (L : List (List Nat)) (cap : Nat), v = .slice ao L.length cap ∧ IAt ao L W ∧ Ids L ∧ L.length ≤ 4398046510976 ∧ (ao = none → cap = 0) := by
  rcases Deep.open_slice ht hf with ⟨hcs, _⟩ | ⟨x0, len0, cap0, m, n, D, Pl, hcs, _, hl, hm, hmm, hx, hi⟩
  · simp only [List.cons.injEq, and_true] at hcs
    subst hcs
    exact ⟨none, [], 0, rfl, Or.inl rfl, Ids.nil, by simp, fun _ => rfl⟩
  · simp only [List.cons.injEq, and_true] at hcs
    subst hcs
    simp only [if_true] at hmm
    subst hmm
    rw [hsz] at hi
    have hd : x.1 = .slice ((List.range len0).map D) ((List.range (m - len0)).map fun j => D (len0 + j)) := congrArg Prod.fst hx
    rw [hd] at hwt
    simp only [DataW.weights, ht] at hwt
    have hwn := hwt _ (List.mem_cons_self ..)
    rw [hb16] at hwn
    simp only [List.length_map, List.length_range] at hwn
    have hE : ∀ i, i < m → ∃ l : List Nat, (l.length = 32 ∧ ∀ y ∈ l, y < 256) ∧ ∀ j y, (nums .u8 l)[j]? = some y → W.cell? ((x0.add (i * 32)).add j) = some y := by
      intro i him
      obtain ⟨cs', hc, htr⟩ := hi i him
      obtain ⟨_, hcl, hat⟩ := World.cells?_some hc
      obtain ⟨l, rfl, h1, h2⟩ := trod_bytesI hu he hone hsz htr
      refine ⟨l, ⟨h1, h2⟩, fun j y hj => ?_⟩
      have hj16 : j < 32 := by
        have := (List.getElem?_eq_some_iff.1 hj).1
        rw [nums_len, h1] at this
        exact this
      rw [hat j hj16]
      exact hj
    let F : Nat → List Nat := fun i => if h : i < m then (hE i h).choose else []
    have hF : ∀ i, i < m → ((F i).length = 32 ∧ ∀ y ∈ F i, y < 256) ∧ ∀ j y, (nums .u8 (F i))[j]? = some y → W.cell? ((x0.add (i * 32)).add j) = some y := by
      intro i him
      show ((if h : i < m then (hE i h).choose else []).length = 32 ∧ _) ∧ _
      simp only [F, dif_pos him]
      exact (hE i him).choose_spec
    have hlen : ((List.range len0).map F).length = len0 := by simp
    refine ⟨some x0, (List.range len0).map F, m, by rw [hlen], ?_, ?_, by rw [hlen]; omega, fun h => by cases h⟩
    · by_cases h0 : len0 = 0
      · subst h0; exact Or.inl rfl
      · have h1 := hF 0 (by omega)
        obtain ⟨b, o, spot⟩ := x0
        have hc0 := h1.2 0 ((nums .u8 (F 0))[0]'(by rw [nums_len, h1.1.1]; decide)) (List.getElem?_eq_getElem _)
        have hspot : spot = none := by simpa [Addr.add] using World.cell?_spot hc0
        subst hspot
        refine Or.inr ⟨b, o, rfl, ?_, fun i hi2 j y hj => ?_⟩
        · have := block_lt_of_cell hc0
          simpa [Addr.add] using this
        · rw [hlen] at hi2
          have hg : ((List.range len0).map F).getD i [] = F i := by rw [List.getD_eq_getElem?_getD, List.getElem?_map, List.getElem?_range hi2]; rfl
          rw [hg] at hj
          have := (hF i (by omega)).2 j y hj
          rw [Addr.add_mid, Addr.add_mid] at this
          rw [Nat.mul_comm 32 i]
          exact this
    · intro z hz
      obtain ⟨i, hi2, rfl⟩ := List.mem_map.1 hz
      exact (hF i (by have := List.mem_range.1 hi2; omega)).1
theorem Ids.set {L : List (List Nat)} (h : Ids L) (i : Nat) {x : List Nat} (hx : x.length = 32) (lx : ∀ y ∈ x, y < 256) : Ids (L.set i x) := fun z hz => by
  rcases List.mem_or_eq_of_mem_set hz with hz | rfl
  · exact h z hz
  · exact ⟨hx, lx⟩
def layLI (xs : List Value) : Nat → List Value → List Value
  | _, [] => xs
  | o, v :: r => layLI (xs.set o v) (o + 1) r
theorem layL_getI : ∀ (vs : List Value) (xs : List Value) (o j : Nat), o + vs.length ≤ xs.length → (layLI xs o vs)[j]? = if o ≤ j ∧ j < o + vs.length then vs[j - o]? else xs[j]?
  | [], xs, o, j, _ => by rw [layLI, if_neg (by simp only [List.length_nil]; omega)]
  | v :: r, xs, o, j, h => by
    simp only [List.length_cons] at h ⊢
    rw [layLI, layL_getI r (xs.set o v) (o + 1) j (by rw [List.length_set]; omega)]
    by_cases h1 : o + 1 ≤ j ∧ j < o + 1 + r.length
    · rw [if_pos h1, if_pos (by omega), show j - o = (j - (o + 1)) + 1 by omega, List.getElem?_cons_succ]
    · rw [if_neg h1]
      by_cases h2 : j = o
      · subst h2
        rw [if_pos (by omega), Nat.sub_self, List.getElem?_set_self (by omega)]
        rfl
      · rw [if_neg (by omega), List.getElem?_set_ne (by omega)]
theorem flatI_set {L : List (List Nat)} (hL : Ids L) {i : Nat} (hi : i < L.length) {x : List Nat} (hx : x.length = 32) (lx : ∀ y ∈ x, y < 256) : flatI (L.set i x) = layLI (flatI L) (32 * i) (nums .u8 x) := by
  have hnx : (nums .u8 x).length = 32 := by rw [nums_len, hx]
  have hfl := flatI_len hL
  have hS := hL.set i hx lx
  have hfs := flatI_len hS
  rw [List.length_set] at hfs
  refine List.ext_getElem? fun j => ?_
  rw [layL_getI _ _ _ _ (by rw [hnx, hfl]; omega), hnx]
  rcases Nat.lt_or_ge j (L.length * 32) with hj | hj
  · obtain ⟨q, m, rfl, hm⟩ : ∃ q m, j = 32 * q + m ∧ m < 32 := ⟨j / 32, j % 32, by omega, Nat.mod_lt _ (by decide)⟩
    rw [flatI_get hS (by rw [List.length_set]; omega) hm, flatI_get hL (by omega) hm]
    by_cases hq : q = i
    · subst hq
      rw [if_pos (by omega), show 32 * q + m - 32 * q = m by omega]
      simp [List.getD_eq_getElem?_getD, List.getElem?_set_self hi]
    · rw [if_neg (by omega)]
      simp [List.getD_eq_getElem?_getD, List.getElem?_set_ne (Ne.symm hq)]
  · rw [if_neg (by omega), List.getElem?_eq_none (by omega), List.getElem?_eq_none (by omega)]
theorem ownsRow_layI {B g n c size : Nat} {e : TypeId} : ∀ (vs xs : List Value) (o : Nat) (w : World), w.ownsRow B e size (.slice (some ⟨g, 0, none⟩) n c) n xs → (w.setCells g o vs).ownsRow B e size (.slice (some ⟨g, 0, none⟩) n c) n (layLI xs o vs)
  | [], _, _, _, h => h
  | v :: r, _, o, _, h => ownsRow_layI r _ (o + 1) _ (World.ownsRow.stored h o v).1
theorem OwnI.set {B g n c i : Nat} {e : TypeId} {L : List (List Nat)} {w : World} (hn : n = L.length) (h : OwnI B e (.slice (some ⟨g, 0, none⟩) n c) L w) (hL : Ids L) (hi : i < n) {x : List Nat} (hx : x.length = 32) (lx : ∀ y ∈ x, y < 256) :
    OwnI B e (.slice (some ⟨g, 0, none⟩) n c) (L.set i x) (w.setCells g (32 * i) (nums .u8 x)) := by
  subst hn
  have h1 := ownsRow_layI (nums .u8 x) _ (32 * i) w h
  unfold OwnI
  rw [List.length_set, flatI_set hL hi hx lx]
  exact h1
theorem OwnI.there {B g n c i : Nat} {e : TypeId} {L : List (List Nat)} {w : World} (hn : n = L.length) (h : OwnI B e (.slice (some ⟨g, 0, none⟩) n c) L w) (hL : Ids L) (hi : i < n) : w.there g (32 * i) 32 := by
  subst hn
  intro j hj
  exact ⟨by rw [World.ownsRow.cellAt h (32 * i + j) (by omega), List.getElem?_eq_getElem (by rw [flatI_len hL]; omega)]; rfl, World.ownsRow.frozenAt h (32 * i + j)⟩
theorem But.setCellsI {b : Nat} {w : World} : ∀ (vs : List Value) (o : Nat) (w' : World), But b w w' → But b w (w'.setCells b o vs)
  | [], _, _, h => h
  | v :: r, o, _, h => But.setCellsI r (o + 1) _ (h.setCell o v)
theorem wpList_store_id {P : Program} {w : World} {ops : Array Oper} {rest : List Oper} {o : Oper} {a : Act} {Q : Exit → Act → World → Prop} (hgd : o.guard = none) (ty : TypeId) (x y : Operand) (ho : o.op = .store ty x y) (hd : o.dst = none)
    (B g n c i off : Nat) (e : TypeId) (L : List (List Nat)) (l : List Nat) (hn : n = L.length) (hoff : off = 32 * i) (hx : a.eval x = .pointer (some ⟨g, off, none⟩)) (hy : a.eval y = .agg (nums .u8 l).toArray)
    (hO : OwnI B e (.slice (some ⟨g, 0, none⟩) n c) L w) (hL : Ids L) (hi : i < n) (hl : l.length = 32) (ll : ∀ y ∈ l, y < 256) (hty : (P.info? ty).map (·.size) = some 32)
    (h : ∀ w', Hid (OwnI B e (.slice (some ⟨g, 0, none⟩) n c) (L.set i l) w') → Hid (But g w w') → wpList P ops Q rest a w') : wpList P ops Q (o :: rest) a w := by
  subst hoff
  have hs : (nums .u8 l).toArray.size = 32 := by rw [List.size_toArray, nums_len, hl]
  refine wpList_store_mid hgd ty x y ho g (32 * i) _ hx hy (by rw [hs]; exact hO.there hn hL hi) (by rw [hs]; exact hty) (all_oneCell_toArray (nums_one _ _)) ?_
  rw [hd]
  refine h _ ?_ ?_
  · exact (hO.set hn hL hi hl ll)
  · exact (But.setCellsI _ _ _ (But.refl _ _))
theorem rangeAt_belowI {b o B : Nat} {cs : List Value} {w w' : World} (h : w.rangeAt b o cs) (hb : Below B w w') (hB : b < B) : w'.rangeAt b o cs := fun j v hv => (hb.cell (p := ⟨b, o + j, none⟩) hB).trans (h j v hv)
theorem Tryz.infoI32 : (Tryz.prog.info? 25).map (fun i => (i.zero, i.size, i.bytes)) = some (some (.agg (nums .u8 (List.replicate 32 0)).toArray), 32, 32) := by kernel_rfl
theorem wpList_build_id {P : Program} {ops : Array Oper} {rest : List Oper} {o : Oper} {a : Act} {w : World} {Q : Exit → Act → World → Prop} (hg : o.guard = none) (t e : TypeId) (x : Operand) (ho : o.op = .buildSlice t 1 #[(0, x)])
    (l : List Nat) (hx : a.eval x = .agg (nums .u8 l).toArray) (hl : l.length = 32) (ht : P.underlying t = some (.slice e)) (hinfo : (P.info? e).map (fun i => (i.zero, i.size, i.bytes)) = some (some (.agg (nums .u8 (List.replicate 32 0)).toArray), 32, 32))
    (h : ∀ w', Hid (Blk w.heap.size e .u8 l w') → Hid (Below w.heap.size w w') → wpList P ops Q rest (a.put o.dst (.slice (some ⟨w.heap.size, 0, none⟩) 1 1)) w') : wpList P ops Q (o :: rest) a w := by
  obtain ⟨ie, hi, hz0, hz1, _⟩ := info_parts hinfo
  refine wpList_buildSlice hg t e 1 #[(0, x)] ho (nums .u8 l).toArray ie _ ht hi hz0 (by rw [hz1]; decide) (by rw [hz1]; decide) ?_ (h _ (heap_alloc_new w _) ((Below.refl _ w).alloc (Nat.le_refl _) _))
  rw [hz1]
  have h1 := Great.fill_whole (s := 32) (by decide) [Value.agg (nums .u8 l).toArray] ((Array.range (1 * 32)).map ((Value.agg (nums .u8 (List.replicate 32 0)).toArray).cells[· % (Value.agg (nums .u8 (List.replicate 32 0)).toArray).cells.size]!))
    (fun v hv => by obtain rfl := List.mem_singleton.1 hv; show (nums .u8 l).toArray.size = 32; rw [List.size_toArray, nums_len, hl]) (by simp)
  have e1 : ((#[(0, x)] : Array (Nat × Operand)).map fun (i, x) => (i, a.eval x)).toList = ([Value.agg (nums .u8 l).toArray].zipIdx 0).map fun x => (x.2, x.1) := by
    simp [hx, List.zipIdx_cons]
  have e2 : ([Value.agg (nums .u8 l).toArray].flatMap fun v => v.cells.toList).toArray = (nums .u8 l).toArray := by
    rw [List.flatMap_cons, List.flatMap_nil, List.append_nil]
    rfl
  rw [e1, h1, e2]
theorem take_nextI {L : List (List Nat)} {k : Nat} (h : k < L.length) : L.take (k + 1) = L.take k ++ [L.getD k []] := by
  rw [List.take_succ_eq_append_getElem h, List.getD_eq_getElem?_getD, List.getElem?_eq_getElem h]
  rfl
theorem OwnI.byte {B g n c i j : Nat} {e : TypeId} {L : List (List Nat)} {w : World} (hn : n = L.length) (h : OwnI B e (.slice (some ⟨g, 0, none⟩) n c) L w) (hL : Ids L) (hi : i < n) (hj : j < 32) :
    w.cell? ⟨g, i * 32 + j, none⟩ = some (.int .u8 (((L.getD i []).getD j 0 : Nat) : Int)) := by
  subst hn
  have hx := (hL.getD hi).1
  rw [World.ownsRow.cellAt h (i * 32 + j) (by omega), Nat.mul_comm, flatI_get hL hi hj, nums, List.getElem?_map, List.getElem?_eq_getElem (by omega), List.getD_eq_getElem?_getD (l := L.getD i []), List.getElem?_eq_getElem (by omega)]
  rfl
theorem OwnI.frozenByte {B g n c : Nat} {e : TypeId} {L : List (List Nat)} {w : World} (hn : n = L.length) (h : OwnI B e (.slice (some ⟨g, 0, none⟩) n c) L w) (o : Nat) : w.frozen? ⟨g, o, none⟩ = false := by
  subst hn
  exact World.ownsRow.frozenAt h o
theorem set_ltI {x : List Nat} (hx : ∀ y ∈ x, y < 256) (j : Nat) {z : Nat} (hz : z < 256) : ∀ y ∈ x.set j z, y < 256 := fun y hy => by
  rcases List.mem_or_eq_of_mem_set hy with h | rfl
  · exact hx y h
  · exact hz
theorem flatI_byte {L : List (List Nat)} (hL : Ids L) {i j z : Nat} (hi : i < L.length) (hj : j < 32) (hz : z < 256) : flatI (L.set i ((L.getD i []).set j z)) = (flatI L).set (i * 32 + j) (.int .u8 (z : Int)) := by
  obtain ⟨hx1, hx2⟩ := hL.getD hi
  have hfl := flatI_len hL
  have hs1 : ((L.getD i []).set j z).length = 32 := by rw [List.length_set, hx1]
  have hns : (nums .u8 ((L.getD i []).set j z)).length = 32 := by rw [nums_len, hs1]
  rw [flatI_set hL hi hs1 (set_ltI hx2 j hz)]
  refine List.ext_getElem? fun q => ?_
  rw [layL_getI _ _ _ _ (by rw [hns, hfl]; omega), hns]
  by_cases hq : 32 * i ≤ q ∧ q < 32 * i + 32
  · rw [if_pos hq]
    obtain ⟨m, rfl, hm⟩ : ∃ m, q = 32 * i + m ∧ m < 32 := ⟨q - 32 * i, by omega, by omega⟩
    rw [show 32 * i + m - 32 * i = m by omega, nums, List.map_set]
    by_cases hmj : m = j
    · subst hmj
      rw [List.getElem?_set_self (by rw [List.length_map]; omega), show i * 32 + m = 32 * i + m by omega, List.getElem?_set_self (by omega)]
    · rw [List.getElem?_set_ne (Ne.symm hmj), List.getElem?_set_ne (by omega), flatI_get hL hi hm]
      rfl
  · rw [if_neg hq, List.getElem?_set_ne (by omega)]
theorem OwnI.setByte {B g n c i j z : Nat} {e : TypeId} {L : List (List Nat)} {w : World} (hn : n = L.length) (h : OwnI B e (.slice (some ⟨g, 0, none⟩) n c) L w) (hL : Ids L) (hi : i < n) (hj : j < 32) (hz : z < 256) :
    OwnI B e (.slice (some ⟨g, 0, none⟩) n c) (L.set i ((L.getD i []).set j z)) (w.setCell ⟨g, i * 32 + j, none⟩ (.int .u8 (z : Int))) := by
  subst hn
  have h1 := (World.ownsRow.stored h (i * 32 + j) (.int .u8 (z : Int))).1
  unfold OwnI
  rw [List.length_set, flatI_byte hL hi hj hz]
  exact h1
theorem Ids.setByte {L : List (List Nat)} (hL : Ids L) {i j z : Nat} (hi : i < L.length) (hz : z < 256) : Ids (L.set i ((L.getD i []).set j z)) := by
  obtain ⟨hx1, hx2⟩ := hL.getD hi
  exact hL.set i (by rw [List.length_set, hx1]) (set_ltI hx2 j hz)
theorem equal_idI (a b : List Nat) (ha : a.length = 32) (hb : b.length = 32) (la : ∀ x ∈ a, x < 256) (lb : ∀ x ∈ b, x < 256) (w : World) :
    (Op.equalIn 10000 25 (.agg (nums .u8 a).toArray) (.agg (nums .u8 b).toArray)).run Tryz.prog w = .ok (a == b) w :=
  equal_nums _ _ _ Tryz.underlying25 Tryz.underlying5 Tryz.sizeOf5 a b ha hb la lb w
end Go.Proofs.YtandadfphlandaaGreatDoor
namespace Go.Proofs.YtandadfphlandaaGreatDoor
open Go.RowKit
structure Only (O : Nat → Prop) (w w' : World) : Prop where
  os : w'.os = w.os
  tape : w'.tape = w.tape
  output : w'.output = w.output
  size : w.heap.size ≤ w'.heap.size
  block : ∀ k, k < w.heap.size → ¬ O k → w'.heap[k]? = w.heap[k]?
theorem Only.refl (O : Nat → Prop) (w : World) : Only O w w := ⟨rfl, rfl, rfl, Nat.le_refl _, fun _ _ _ => rfl⟩
theorem Only.below {O : Nat → Prop} {w w1 w2 : World} (h : Only O w w1) (k : Below w1.heap.size w1 w2) : Only O w w2 :=
  ⟨k.os.trans h.os, k.tape.trans h.tape, k.output.trans h.output, Nat.le_trans h.size k.size, fun i hi hO => (k.block i (Nat.lt_of_lt_of_le hi h.size)).trans (h.block i hi hO)⟩
theorem Only.of {O : Nat → Prop} {w w' : World} (h : Below w.heap.size w w') : Only O w w' := (Only.refl O w).below h
theorem Only.but {O : Nat → Prop} {b : Nat} {w w1 w2 : World} (h : Only O w w1) (k : But b w1 w2) (hb : O b ∨ w.heap.size ≤ b) : Only O w w2 :=
  ⟨k.os.trans h.os, k.tape.trans h.tape, k.output.trans h.output, Nat.le_trans h.size k.size, fun i hi hO => (k.block i (Nat.lt_of_lt_of_le hi h.size) (fun e => by
    subst e
    rcases hb with hb | hb
    · exact hO hb
    · omega)).trans (h.block i hi hO)⟩
theorem Only.grown {O : Nat → Prop} {row : Option Nat} {w w1 w2 : World} (h : Only O w w1) (k : w1.grownBy w2 row) (hr : ∀ b, row = some b → O b ∨ w.heap.size ≤ b) : Only O w w2 :=
  ⟨k.os.trans h.os, k.tape.trans h.tape, k.output.trans h.output, Nat.le_trans h.size k.size, fun i hi hO => (k.block i (Nat.lt_of_lt_of_le hi h.size) (fun e => by
    rcases hr i e.symm with hb | hb
    · exact hO hb
    · omega)).trans (h.block i hi hO)⟩
theorem Only.setCell {O : Nat → Prop} {w w1 : World} (h : Only O w w1) {b : Nat} (o : Nat) (v : Value) (hb : O b ∨ w.heap.size ≤ b) : Only O w (w1.setCell ⟨b, o, none⟩ v) := h.but ((But.refl b w1).setCell o v) hb
theorem Only.trans {O O' : Nat → Prop} {w1 w2 w3 : World} (h : Only O w1 w2) (k : Only O' w2 w3) (ho : ∀ b, O' b → O b ∨ w1.heap.size ≤ b) : Only O w1 w3 :=
  ⟨k.os.trans h.os, k.tape.trans h.tape, k.output.trans h.output, Nat.le_trans h.size k.size, fun i hi hO => (k.block i (Nat.lt_of_lt_of_le hi h.size) (fun e => by
    rcases ho i e with hb | hb
    · exact hO hb
    · omega)).trans (h.block i hi hO)⟩
theorem Only.toBelow {O : Nat → Prop} {B : Nat} {w0 w w' : World} (h0 : Below B w0 w) (h : Only O w w') (hO : ∀ b, O b → B ≤ b) (hB : B ≤ w.heap.size) : Below B w0 w' :=
  h0.trans ⟨h.os, h.tape, h.output, h.size, fun k hk => h.block k (Nat.lt_of_lt_of_le hk hB) (fun e => by have := hO k e; omega)⟩
structure Turn (O O' : Nat → Prop) (w w' : World) : Prop where
  only : Only O w w'
  own : ∀ b, O' b → O b ∨ w.heap.size ≤ b
theorem Turn.refl (O : Nat → Prop) (w : World) : Turn O O w w := ⟨Only.refl O w, fun _ h => .inl h⟩
theorem Turn.trans {O O' O'' : Nat → Prop} {w1 w2 w3 : World} (h : Turn O O' w1 w2) (k : Turn O' O'' w2 w3) : Turn O O'' w1 w3 :=
  ⟨h.only.trans k.only h.own, fun b hb => by
    rcases k.own b hb with h1 | h1
    · exact h.own b h1
    · exact .inr (Nat.le_trans h.only.size h1)⟩
theorem Turn.below {O O' : Nat → Prop} {w1 w2 w3 : World} (h : Turn O O' w1 w2) (k : Below w2.heap.size w2 w3) : Turn O O' w1 w3 := ⟨h.only.below k, h.own⟩
theorem Turn.of {O : Nat → Prop} {w w' : World} (k : Below w.heap.size w w') : Turn O O w w' := (Turn.refl O w).below k
theorem Cells.only {O : Nat → Prop} {b : Nat} {t : TypeId} {cs : Array Value} {w w' : World} (h : Cells b t cs w) (k : Only O w w') (hb : ¬ O b) : Cells b t cs w' := (k.block b h.lt hb).trans h
theorem Cells.set {g : Nat} {t : TypeId} {cs : Array Value} {w : World} (h : Cells g t cs w) (j : Nat) (u : Value) : Cells g t (cs.setIfInBounds j u) (w.setCell ⟨g, j, none⟩ u) := heap_setCell_at h
theorem Cells.at {g : Nat} {t : TypeId} {cs : Array Value} {w : World} (h : Cells g t cs w) (j : Nat) : w.cell? ⟨g, j, none⟩ = cs[j]? := Lib.cell_of_heap h j
theorem Cells.frozen {g : Nat} {t : TypeId} {cs : Array Value} {w : World} (h : Cells g t cs w) (j : Nat) : w.frozen? ⟨g, j, none⟩ = false := by
  have h' : w.heap[g]? = some (.cells cs t (0, 0)) := h
  simp [World.frozen?, h']
theorem conv_in {P : Program} {src dst e : TypeId} (hs : P.underlying src = some (.slice e)) (he : P.underlying e = some (.int .u8)) (hd : P.underlying dst = some .string) {ao : Option Addr} {c : Nat} {b : List UInt8} {w : World} (h : NumsAt ao .u8 (byteNs b) w) :
    (convert src dst (.slice ao b.length c)).run P w = .ok (.string ⟨b.toArray⟩) w := by
  rcases h with h | ⟨g, o, rfl, _, hc⟩
  · obtain rfl : b = [] := by simpa [byteNs] using h
    rw [run_convert_bytes_string w src dst e _ _ c hs he hd]
    cases ao <;> simp [Conv.bytesToString, loadCells]
    all_goals rfl
  · refine run_convert_bytes_back w src dst e ⟨g, o, none⟩ c b hs he hd (fun j hj => ?_)
    rw [Addr.add_mid]
    have := hc j (by rw [byteNs_len]; exact hj)
    rw [this]
    simp [byteNs]
theorem quiet_conv {P : Program} {o : Oper} {a : Act} {C : World → Prop} {K : Act → Prop} (t u : TypeId) (x : Operand) (ho : o.op = .convert t u x) (v r : Value) (hx : a.eval x = v)
    (hC : ∀ w, C w → (convert t u v).run P w = .ok r w) (hk : K (a.put o.dst r)) : o.quiet P a C K := by
  refine ⟨_, fun w hw => ?_, hk⟩
  unfold Oper.quietAt execOp
  simp only [ho, hx, Sem.run_bind, hC w hw, Result.andThen_ok, Sem.run_pure]
  exact ⟨rfl, rfl⟩
end Go.Proofs.YtandadfphlandaaGreatDoor
namespace Go.Proofs.YtandadfphlandaaGreatDoor
open Go.RowKit
section
variable {P : Program} {o : Oper} {a : Act} {w : World} {K : Act → World → Prop} {Q : Exit → Act → World → Prop}
theorem op_nilCheck (x : Operand) (ho : o.op = .nilCheck x) (p : Addr) (hx : a.eval x = .pointer (some p)) (h : K (a.put o.dst (.pointer (some p))) w) : OpWp P o a w K Q := by
  refine ⟨?_⟩
  unfold Oper.wp execOp
  simp only [ho, hx, Sem.run_pure]
  exact h
theorem op_fieldAt (ty : TypeId) (x : Operand) (k : Nat) (ho : o.op = .fieldAddr ty x k) (p q : Addr) (hx : a.eval x = .pointer (some p)) (hr : ∀ w, (Instr.fieldAt ty (.pointer (some p)) k).run P w = .ok (.pointer (some q)) w)
    (h : K (a.put o.dst (.pointer (some q))) w) : OpWp P o a w K Q := by
  refine ⟨?_⟩
  unfold Oper.wp execOp
  simp only [ho, hx, Sem.run_bind, Sem.run_pure, hr, Result.andThen_ok]
  exact h
theorem op_load_cell (ty : TypeId) (x : Operand) (ho : o.op = .load ty x) (p : Addr) (v : Value) (hx : a.eval x = .pointer (some p)) (hc : w.cell? p = some v) (hi : ∀ w, (isAgg ty).run P w = .ok false w) (h : K (a.put o.dst v) w) : OpWp P o a w K Q := by
  refine ⟨?_⟩
  unfold Oper.wp execOp
  simp only [ho, hx, Instr.loadAt, Instr.sureAddr, Sem.run_bind, Sem.run_pure, Result.andThen_ok, run_loadVar_cell w ty p v hc hi]
  exact h
theorem op_indexAt (ty : TypeId) (x y : Operand) (ho : o.op = .indexAddr ty x y) (vx vy : Value) (q : Addr) (hx : a.eval x = vx) (hy : a.eval y = vy) (hr : ∀ w, (Instr.indexAt ty vx vy).run P w = .ok (.pointer (some q)) w)
    (h : K (a.put o.dst (.pointer (some q))) w) : OpWp P o a w K Q := by
  refine ⟨?_⟩
  unfold Oper.wp execOp
  simp only [ho, hx, hy, Sem.run_bind, Sem.run_pure, hr, Result.andThen_ok]
  exact h
theorem op_conv (t u : TypeId) (x : Operand) (ho : o.op = .convert t u x) (v r : Value) (hx : a.eval x = v) (hC : (convert t u v).run P w = .ok r w) (h : K (a.put o.dst r) w) : OpWp P o a w K Q := by
  refine ⟨?_⟩
  unfold Oper.wp execOp
  simp only [ho, hx, Sem.run_bind, hC, Result.andThen_ok, Sem.run_pure]
  exact h
end
theorem FreeStep.asked {P : Program} {ops : Array Oper} {Q : Exit → Act → World → Prop} {F : (Nat → Value) → Act} {Inv : (Nat → Bool) → (Nat → Value) → World → Prop} {o : Oper} {i : Nat} (j : Nat) (b : Bool) (hg : o.guard = some (j, b))
    (hy : ∀ V, V j = .bool b → yielded ops (F V).tmps j = some b) (hv : ∀ s V w, (∀ e ∈ o.after, Region.binds .any e = true → s e.on = true) → Inv s V w → V j = .bool b)
    (h : ∀ s V w, (∀ e ∈ o.after, Region.binds .any e = true → s e.on = true) → s i = false → Inv s V w → ∀ K : Act → World → Prop, (∀ v w', Inv (fun j => s j || j == i) (upd V i v) w' → K ((F V).put o.dst v) w') → OpWp P o (F V) w K Q) : FreeStep P ops Q F Inv o i := ⟨fun s V w hr hu hI K hK => by
  have hw : Region.wanted o (yielded ops (F V).tmps) = true := by simp [Region.wanted, hg, hy V (hv s V w hr hI)]
  rw [if_pos hw]
  exact (h s V w hr hu hI K hK).out⟩
theorem op_bin {P : Program} {o : Oper} {a : Act} {w : World} {K : Act → World → Prop} {Q : Exit → Act → World → Prop} (op : BinOp) (t u : TypeId) (x y : Operand) (ho : o.op = .binOp op t x y u) (vx vy r : Value) (hx : a.eval x = vx) (hy : a.eval y = vy)
    (hg : ∀ w, (eqGuard op t x y vx vy).run P w = .ok () w) (hr : ∀ w, (binOp op t vx vy).run P w = .ok r w) (h : K (a.put o.dst r) w) : OpWp P o a w K Q := by
  refine ⟨?_⟩
  unfold Oper.wp execOp
  simp only [ho, hx, hy, Sem.run_bind, Sem.run_pure, hg, hr, Result.andThen_ok]
  exact h
theorem results_cells_tmp {P : Program} {fn : Func} {p u : Tmp} {ty : TypeId} (h : fn.results = #[.cell p ty, .tmp u]) (tmps : Array Value) (w : World) (g : Nat) (cs : Array Value) (t : TypeId) (d : TypeDesc) (v : Value)
    (hp : tmps.getD p undef = .pointer (some ⟨g, 0, none⟩)) (hv : tmps.getD u undef = v) (hg : Cells g t cs w)
    (hu : P.underlying ty = some d) (hd : (match d with | .struct _ | .array _ _ => true | _ => false) = true) (hi : (P.info? ty).map (·.size) = some cs.size) :
    (results fn tmps).run P w = .ok (.tuple #[.agg cs, v]) w := by
  rw [results_cell_tmp h, hp, hv]
  simp [asAddr, Result.andThen, run_loadVar_row w g t ty _ (0, 0) d hg hu hd hi]
end Go.Proofs.YtandadfphlandaaGreatDoor
namespace Go.Proofs.YtandadfphlandaaGreatDoor
open Go.RowKit Go.BigFrame
def draftL (d : DraftN) : List Value := .int .i64 d.kind :: .string ⟨d.key.toArray⟩ :: .string ⟨d.val.toArray⟩ :: nums .u8 d.ref
def draftV (d : DraftN) : Array Value := (draftL d).toArray
def opL (o : OpN) (pa : Option Addr) (pc : Nat) : List Value := draftL o.d ++ [.int .i64 o.author, .int .i64 o.depth, .slice pa o.preds.length pc]
def opV (o : OpN) (pa : Option Addr) (pc : Nat) : Array Value := (opL o pa pc).toArray
theorem draftL_len {d : DraftN} (h : d.ref.length = 32) : (draftL d).length = 35 := by simp [draftL, nums_len, h]
theorem opL_len {o : OpN} {pa : Option Addr} {pc : Nat} (h : o.d.ref.length = 32) : (opL o pa pc).length = 38 := by rw [opL, List.length_append, draftL_len h]; rfl
theorem draftL_one (d : DraftN) : ∀ u ∈ draftL d, u.oneCell' = true := fun u hu => by
  simp only [draftL, List.mem_cons] at hu
  rcases hu with rfl | rfl | rfl | hu
  · rfl
  · rfl
  · rfl
  · exact nums_one _ _ u hu
theorem opL_one (o : OpN) (pa : Option Addr) (pc : Nat) : ∀ u ∈ opL o pa pc, u.oneCell' = true := fun u hu => by
  rcases List.mem_append.1 hu with hu | hu
  · exact draftL_one _ u hu
  · simp only [List.mem_cons, List.not_mem_nil, or_false] at hu
    rcases hu with rfl | rfl | rfl <;> rfl
theorem zeroI_lit : (nums .u8 zeroI).toArray = #[.int .u8 0, .int .u8 0, .int .u8 0, .int .u8 0, .int .u8 0, .int .u8 0, .int .u8 0, .int .u8 0, .int .u8 0, .int .u8 0, .int .u8 0, .int .u8 0, .int .u8 0, .int .u8 0, .int .u8 0, .int .u8 0, .int .u8 0, .int .u8 0, .int .u8 0, .int .u8 0, .int .u8 0, .int .u8 0, .int .u8 0, .int .u8 0, .int .u8 0, .int .u8 0, .int .u8 0, .int .u8 0, .int .u8 0, .int .u8 0, .int .u8 0, .int .u8 0] := rfl
theorem Tryz.sizeI : (Tryz.prog.info? 25).map (·.size) = some 32 := by kernel_rfl
theorem draft_cells {g : Nat} {t : TypeId} {d : DraftN} {w : World} (h : Cells g t (draftV d) w) : w.cell? ⟨g, 0, none⟩ = some (.int .i64 d.kind) ∧ w.cell? ⟨g, 1, none⟩ = some (.string ⟨d.key.toArray⟩) ∧ w.cell? ⟨g, 2, none⟩ = some (.string ⟨d.val.toArray⟩) ∧ w.rangeAt g 3 (nums .u8 d.ref) := by
  refine ⟨by rw [h.at]; rfl, by rw [h.at]; rfl, by rw [h.at]; rfl, fun j v hj => ?_⟩
  rw [h.at, draftV, List.getElem?_toArray, draftL, Nat.add_comm, List.getElem?_cons_succ, List.getElem?_cons_succ, List.getElem?_cons_succ]
  exact hj
theorem op_cells {g : Nat} {t : TypeId} {o : OpN} {pa : Option Addr} {pc : Nat} {w : World} (hr : o.d.ref.length = 32) (h : Cells g t (opV o pa pc) w) :
    w.rangeAt g 0 (draftL o.d) ∧ w.cell? ⟨g, 35, none⟩ = some (.int .i64 o.author) ∧ w.cell? ⟨g, 36, none⟩ = some (.int .i64 o.depth) ∧ w.cell? ⟨g, 37, none⟩ = some (.slice pa o.preds.length pc) := by
  have hl := draftL_len hr
  have hx : ∀ i, w.cell? ⟨g, 35 + i, none⟩ = ([Value.int .i64 o.author, .int .i64 o.depth, .slice pa o.preds.length pc] : List Value)[i]? := fun i => by
    rw [h.at, opV, List.getElem?_toArray, opL, List.getElem?_append_right (by omega), hl, Nat.add_sub_cancel_left]
  refine ⟨fun j v hj => ?_, hx 0, hx 1, hx 2⟩
  have hjl := (List.getElem?_eq_some_iff.1 hj).1
  rw [Nat.zero_add, h.at, opV, List.getElem?_toArray, opL, List.getElem?_append_left hjl]
  exact hj
theorem op_fields {g : Nat} {d : DraftN} {w : World} (h : w.rangeAt g 0 (draftL d)) : w.cell? ⟨g, 0, none⟩ = some (.int .i64 d.kind) ∧ w.cell? ⟨g, 1, none⟩ = some (.string ⟨d.key.toArray⟩) ∧ w.cell? ⟨g, 2, none⟩ = some (.string ⟨d.val.toArray⟩) ∧ w.rangeAt g 3 (nums .u8 d.ref) := by
  refine ⟨h 0 _ rfl, h 1 _ rfl, h 2 _ rfl, fun j v hj => ?_⟩
  have h1 := h (j + 3) v (by
    rw [draftL, List.getElem?_cons_succ, List.getElem?_cons_succ, List.getElem?_cons_succ]
    exact hj)
  rw [show 0 + (j + 3) = 3 + j by omega] at h1
  exact h1
theorem val_nil_beq (v : List UInt8) : (v == []) = decide (v = []) := by cases v <;> simp
end Go.Proofs.YtandadfphlandaaGreatDoor
namespace Go.Proofs.YtandadfphlandaaGreatDoor
open Go.RowKit
def putL (xs : List Value) : Nat → List Value → List Value
  | _, [] => xs
  | o, v :: r => putL (xs.set o v) (o + 1) r
theorem fold_putL (off : Nat) : ∀ (vs : List Value) (cs : Array Value) (k : Nat), List.foldl (fun (cs : Array Value) (x : Value × Nat) => cs.setIfInBounds (off + x.2) x.1) cs (vs.zipIdx k) = (putL cs.toList (off + k) vs).toArray
  | [], cs, k => by simp [putL]
  | v :: r, cs, k => by rw [List.zipIdx_cons, List.foldl_cons, fold_putL off r, putL]; simp [Nat.add_assoc]
theorem putL_mid : ∀ (vs xs ys zs : List Value), vs.length = ys.length → putL (xs ++ (ys ++ zs)) xs.length vs = xs ++ (vs ++ zs)
  | [], xs, ys, zs, h => by
    obtain rfl : ys = [] := List.length_eq_zero_iff.1 h.symm
    rfl
  | v :: r, xs, ys, zs, h => by
    cases ys with
    | nil => cases h
    | cons y ys =>
      have ih := putL_mid r (xs ++ [v]) ys zs (by simpa using h)
      rw [List.length_append, List.length_singleton] at ih
      rw [putL, List.cons_append, List.set_append_right _ _ (Nat.le_refl _), Nat.sub_self, List.set_cons_zero]
      simpa using ih
theorem fill_lay (place : Nat → Option (Nat × Nat)) (i off size : Nat) (v : Value) (rest : List (Nat × Value)) (xs ys zs vs : List Value) (hp : place i = some (off, size)) (hv : v.cells.toList = vs) (h1 : vs.length = size) (h2 : ys.length = size) (h3 : xs.length = off) :
    Instr.fill place (xs ++ (ys ++ zs)).toArray ((i, v) :: rest) = Instr.fill place (xs ++ (vs ++ zs)).toArray rest := by
  have hc : v.cells.size = size := by rw [← h1, ← hv, Array.length_toList]
  rw [Instr.fill]
  simp only [hp]
  rw [if_neg (by simp [hc]; omega)]
  congr 1
  rw [← Array.foldl_toList, Array.toList_zipIdx, fold_putL off, hv]
  show (putL (xs ++ (ys ++ zs)) (off + 0) vs).toArray = _
  rw [Nat.add_zero, ← h3, putL_mid _ _ _ _ (by omega)]
theorem fill_end (place : Nat → Option (Nat × Nat)) (cs : Array Value) : Instr.fill place cs [] = some cs := rfl
theorem run_build_val {P : Program} {a : Act} {w : World} (t : TypeId) (parts : Array (Nat × Operand)) (vals : List (Nat × Value)) (cs : Array Value)
    (hp : (parts.map fun (i, x) => (i, a.eval x)) = vals.toArray) (hb : P.built t vals = some cs) : (Instr.build t (parts.map fun (i, x) => (i, a.eval x))).run P w = .ok (.agg cs) w := by
  rw [hp]
  exact run_build w t vals.toArray cs (by simpa using hb)
theorem wpList_build_val {P : Program} {ops : Array Oper} {rest : List Oper} {o : Oper} {a : Act} {w : World} {Q : Exit → Act → World → Prop} (hg : o.guard = none) (t : TypeId) (parts : Array (Nat × Operand)) (ho : o.op = .build t parts)
    (vals : List (Nat × Value)) (cs : Array Value) (hp : (parts.map fun (i, x) => (i, a.eval x)) = vals.toArray) (hb : P.built t vals = some cs) (hk : wpList P ops Q rest (a.put o.dst (.agg cs)) w) : wpList P ops Q (o :: rest) a w := by
  refine wpList_plain hg fun K hK => ?_
  unfold Oper.wp execOp
  simp only [ho, Sem.run_bind, run_build_val t parts vals cs hp hb, Result.andThen_ok]
  exact hK _ _ hk
theorem quiet_build_val {P : Program} {o : Oper} {a : Act} {C : World → Prop} {K : Act → Prop} (t : TypeId) (parts : Array (Nat × Operand)) (ho : o.op = .build t parts)
    (vals : List (Nat × Value)) (cs : Array Value) (hp : (parts.map fun (i, x) => (i, a.eval x)) = vals.toArray) (hb : P.built t vals = some cs) (hk : K (a.put o.dst (.agg cs))) : o.quiet P a C K := by
  refine ⟨_, fun w hw => ?_, hk⟩
  unfold Oper.quietAt execOp
  simp only [ho, Sem.run_bind, run_build_val t parts vals cs hp hb, Result.andThen_ok]
  exact ⟨rfl, rfl⟩
theorem op_build_val {P : Program} {o : Oper} {a : Act} {w : World} {K : Act → World → Prop} {Q : Exit → Act → World → Prop} (t : TypeId) (parts : Array (Nat × Operand)) (ho : o.op = .build t parts)
    (vals : List (Nat × Value)) (cs : Array Value) (hp : (parts.map fun (i, x) => (i, a.eval x)) = vals.toArray) (hb : P.built t vals = some cs) (hk : K (a.put o.dst (.agg cs)) w) : OpWp P o a w K Q := by
  refine ⟨?_⟩
  unfold Oper.wp execOp
  simp only [ho, Sem.run_bind, run_build_val t parts vals cs hp hb, Result.andThen_ok]
  exact hk
def NewC (s : Nat → Bool) (V : Nat → Value) (B i : Nat) (t : TypeId) (cs : Array Value) (w : World) : Prop := s i = true → ∃ g, V i = .pointer (some ⟨g, 0, none⟩) ∧ B ≤ g ∧ Cells g t cs w
theorem NewC.none {V : Nat → Value} {B i : Nat} {t : TypeId} {cs : Array Value} {w : World} : NewC (fun _ => false) V B i t cs w := fun h => by cases h
theorem NewC.ne {s : Nat → Bool} {V : Nat → Value} {B i j : Nat} {t : TypeId} {cs : Array Value} {w w' : World} {u : Value} (h : NewC s V B j t cs w) (hne : j ≠ i) (hb : Below w.heap.size w w') : NewC (fun j => s j || j == i) (upd V i u) B j t cs w' := fun hs => by
  obtain ⟨g, e, hg, hk⟩ := h (seen_ne hne hs)
  exact ⟨g, by rw [upd_ne V u hne]; exact e, hg, hk.below hb⟩
theorem NewC.same {s : Nat → Bool} {V : Nat → Value} {B i : Nat} {t : TypeId} {cs : Array Value} {w : World} (hB : B ≤ w.heap.size) : NewC (fun j => s j || j == i) (upd V i (.pointer (some ⟨w.heap.size, 0, Option.none⟩))) B i t cs (w.alloc (.cells cs t)) :=
  fun _ => ⟨w.heap.size, upd_same _ _ _, hB, heap_alloc_new w _⟩
theorem wpList_load_cells_want {P : Program} {w : World} {ops : Array Oper} {rest : List Oper} {o : Oper} {a : Act} {Q : Exit → Act → World → Prop} (hw : Region.wanted o (yielded ops a.tmps) = true) (ty : TypeId) (x : Operand) (ho : o.op = .load ty x)
    (g : Nat) (cs : Array Value) (t : TypeId) (d : TypeDesc) (hx : a.eval x = .pointer (some ⟨g, 0, none⟩)) (hg : Cells g t cs w)
    (hu : P.underlying ty = some d) (hd : (match d with | .struct _ | .array _ _ => true | _ => false) = true) (hi : (P.info? ty).map (·.size) = some cs.size)
    (h : wpList P ops Q rest (a.put o.dst (.agg cs)) w) : wpList P ops Q (o :: rest) a w :=
  BigFrame.wpList_want hw fun _ hK => wp_load_row ty x ho g hx t _ _ d hg hu hd hi (hK _ _ h)
theorem quiet_load_row {P : Program} {o : Oper} {a : Act} {C : World → Prop} {K : Act → Prop} (ty : TypeId) (x : Operand) (ho : o.op = .load ty x) (b off : Nat) (cs : List Value) (d : TypeDesc)
    (hx : a.eval x = .pointer (some ⟨b, off, none⟩)) (hC : ∀ w, C w → w.rangeAt b off cs) (hu : P.underlying ty = some d) (hd : d.isRow = true) (hi : (P.info? ty).map (·.size) = some cs.length)
    (hk : K (a.put o.dst (.agg cs.toArray))) : o.quiet P a C K := by
  refine ⟨_, fun w hw => ?_, hk⟩
  unfold Oper.quietAt execOp
  simp only [ho, hx, Instr.loadAt, Instr.sureAddr, Sem.run_bind, Sem.run_pure, Result.andThen_ok, run_loadVar_mid w b off ty _ d (hC w hw) hu hd hi]
  exact ⟨rfl, rfl⟩
theorem quiet_bin {P : Program} {o : Oper} {a : Act} {C : World → Prop} {K : Act → Prop} (op : BinOp) (t u : TypeId) (x y : Operand) (ho : o.op = .binOp op t x y u) (vx vy r : Value) (hx : a.eval x = vx) (hy : a.eval y = vy)
    (hg : ∀ w, (eqGuard op t x y vx vy).run P w = .ok () w) (hr : ∀ w, (binOp op t vx vy).run P w = .ok r w) (hk : K (a.put o.dst r)) : o.quiet P a C K := by
  refine ⟨_, fun w hw => ?_, hk⟩
  unfold Oper.quietAt execOp
  simp only [ho, hx, hy, Sem.run_bind, Sem.run_pure, hg, hr, Result.andThen_ok]
  exact ⟨rfl, rfl⟩
theorem part_row {P : Program} {w : World} {t : TypeId} {xs vs : Array Value} {off n : Nat} (h1 : (isAgg t).run P w = .ok true w) (h2 : (sizeOf t).run P w = .ok n w) (h3 : xs.extract off (off + n) = vs) : (Go.part t xs off).run P w = .ok (.agg vs) w := by
  simp only [Go.part, Sem.run_bind, h1, h2, Result.andThen_ok, if_true, h3, Sem.run_pure]
theorem part_cell {P : Program} {w : World} {t : TypeId} {xs : Array Value} {off : Nat} {v : Value} (h1 : (isAgg t).run P w = .ok false w) (h3 : xs[off]? = some v) : (Go.part t xs off).run P w = .ok v w := by
  simp only [Go.part, Sem.run_bind, h1, Result.andThen_ok, Bool.false_eq_true, if_false, h3, Sem.run_pure]
theorem eqFields_cons {P : Program} {w : World} {d : Nat} {xs ys : Array Value} {f : Field} {fs : List Field} {nm : String} {t : TypeId} {off : Nat} {a b : Value} {r s : Bool} (hf : (f.name, f.type, f.offset) = (nm, t, off)) (hn : nm ≠ "_")
    (ha : (Go.part t xs off).run P w = .ok a w) (hb : (Go.part t ys off).run P w = .ok b w) (hr : (Op.equalIn d t a b).run P w = .ok r w) (hs : (Op.eqFields d xs ys fs).run P w = .ok s w) : (Op.eqFields d xs ys (f :: fs)).run P w = .ok (r && s) w := by
  simp only [Prod.mk.injEq] at hf
  obtain ⟨rfl, rfl, rfl⟩ := hf
  rw [Op.eqFields, if_pos hn]
  simp only [Sem.run_bind, ha, hb, hr, Result.andThen_ok]
  cases r with
  | false => simp
  | true => simpa using hs
theorem eqFields_nil {P : Program} {w : World} {d : Nat} {xs ys : Array Value} : (Op.eqFields d xs ys []).run P w = .ok true w := by
  rw [Op.eqFields, Sem.run_pure]
theorem run_equal_text {P : Program} {w : World} (d : Nat) (t : TypeId) (a b : List UInt8) (h : P.underlying t = some .string) : (Op.equalIn (d + 1) t (.string ⟨a.toArray⟩) (.string ⟨b.toArray⟩)).run P w = .ok (a == b) w := by
  rw [run_equalIn_string w d t _ _ h, ByteArray.toList_eq, ByteArray.toList_eq]
theorem fields4 {l : List Field} {a b c d : String × TypeId × Nat} (h : l.map (fun f => (f.name, f.type, f.offset)) = [a, b, c, d]) : ∃ f0 f1 f2 f3, l = [f0, f1, f2, f3] ∧ (f0.name, f0.type, f0.offset) = a ∧ (f1.name, f1.type, f1.offset) = b ∧ (f2.name, f2.type, f2.offset) = c ∧ (f3.name, f3.type, f3.offset) = d := by
  match l, h with
  | [f0, f1, f2, f3], h =>
    simp only [List.map_cons, List.map_nil, List.cons.injEq, and_true] at h
    exact ⟨f0, f1, f2, f3, rfl, h.1, h.2.1, h.2.2.1, h.2.2.2⟩
  | [], h => simp at h
  | [_], h => simp at h
  | [_, _], h => simp at h
  | [_, _, _], h => simp at h
  | _ :: _ :: _ :: _ :: _ :: _, h => simp at h
end Go.Proofs.YtandadfphlandaaGreatDoor
namespace Go.Proofs.YtandadfphlandaaGreatDoor
open Go.RowKit Go.BigFrame
theorem Tryz.sizeD : (Tryz.prog.info? 27).map (·.size) = some 35 := by kernel_rfl
theorem Tryz.sizeO : (Tryz.prog.info? 38).map (·.size) = some 38 := by kernel_rfl
def zeroD : DraftN := ⟨0, [], [], zeroI⟩
def zeroO : OpN := ⟨zeroD, 0, 0, []⟩
theorem zeroO_lit : opV zeroO none 0 = #[.int .i64 0, .string ⟨#[]⟩, .string ⟨#[]⟩, .int .u8 0, .int .u8 0, .int .u8 0, .int .u8 0, .int .u8 0, .int .u8 0, .int .u8 0, .int .u8 0, .int .u8 0, .int .u8 0, .int .u8 0, .int .u8 0, .int .u8 0, .int .u8 0, .int .u8 0, .int .u8 0, .int .u8 0, .int .u8 0, .int .u8 0, .int .u8 0, .int .u8 0, .int .u8 0, .int .u8 0, .int .u8 0, .int .u8 0, .int .u8 0, .int .u8 0, .int .u8 0, .int .u8 0, .int .u8 0, .int .u8 0, .int .u8 0, .int .i64 0, .int .i64 0, .slice none 0 0] := rfl
def placeD : Nat → Option (Nat × Nat) := fun i => (#[(0, 1), (1, 1), (2, 1), (3, 32)] : Array (Nat × Nat))[i]?
def placeO : Nat → Option (Nat × Nat) := fun i => (#[(0, 35), (35, 1), (36, 1), (37, 1)] : Array (Nat × Nat))[i]?
theorem draft_fill (parts : List (Nat × Value)) : Tryz.prog.built 27 parts = Instr.fill placeD (draftV zeroD) parts := by kernel_rfl
theorem op_fill (parts : List (Nat × Value)) : Tryz.prog.built 38 parts = Instr.fill placeO (opV zeroO none 0) parts := by kernel_rfl
theorem built_op0 : Tryz.prog.built 38 [] = some (opV zeroO none 0) := by rw [op_fill]; rfl
theorem opV_all (o : OpN) (pa : Option Addr) (pc : Nat) : (opV o pa pc).all (·.oneCell') = true := by
  rw [opV, List.all_toArray]
  exact List.all_eq_true.2 (opL_one o pa pc)
theorem draftV_size {d : DraftN} (h : d.ref.length = 32) : (draftV d).size = 35 := draftL_len h
theorem opV_size {o : OpN} {pa : Option Addr} {pc : Nat} (h : o.d.ref.length = 32) : (opV o pa pc).size = 38 := opL_len h
end Go.Proofs.YtandadfphlandaaGreatDoor
namespace Go.Proofs.YtandadfphlandaaGreatDoor
open Go.RowKit Go.BigFrame
theorem draft_fields : (Tryz.prog.fieldsOf 27).toList.map (fun f => (f.name, f.type, f.offset)) = [("Kind", 3, 0), ("Key", 9, 1), ("Value", 9, 2), ("Ref", 25, 3)] := by kernel_rfl
theorem draft_part (d : DraftN) (hd : d.ref.length = 32) (w : World) : (Go.part 3 (draftV d) 0).run Tryz.prog w = .ok (.int .i64 d.kind) w ∧ (Go.part 9 (draftV d) 1).run Tryz.prog w = .ok (.string ⟨d.key.toArray⟩) w ∧
    (Go.part 9 (draftV d) 2).run Tryz.prog w = .ok (.string ⟨d.val.toArray⟩) w ∧ (Go.part 25 (draftV d) 3).run Tryz.prog w = .ok (.agg (nums .u8 d.ref).toArray) w := by
  refine ⟨part_cell (by kernel_rfl) rfl, part_cell (by kernel_rfl) rfl, part_cell (by kernel_rfl) rfl, part_row (n := 32) (by kernel_rfl) (by kernel_rfl) ?_⟩
  apply Array.ext'
  rw [draftV, draftL, List.extract_toArray, List.toList_toArray, List.extract_eq_take_drop]
  simp only [List.drop_succ_cons, List.drop_zero]
  rw [List.take_of_length_le (by rw [nums_len, hd]; decide)]
def eqDB (a b : DraftN) : Bool := (a.kind == b.kind) && ((a.key == b.key) && ((a.val == b.val) && ((a.ref == b.ref) && true)))
theorem eqDB_eq (a b : DraftN) : eqDB a b = decide (a = b) := by
  obtain ⟨a1, a2, a3, a4⟩ := a
  obtain ⟨b1, b2, b3, b4⟩ := b
  simp only [eqDB, DraftN.mk.injEq]
  rw [Bool.eq_iff_iff]
  simp
theorem equal_draft (a b : DraftN) (ha : IdOk a.ref) (hb : IdOk b.ref) (w : World) :
    (Op.equalIn 10000 27 (.agg (draftV a)) (.agg (draftV b))).run Tryz.prog w = .ok (decide (a = b)) w := by
  have hs := run_equalIn_struct (P := Tryz.prog) w 9999 27 (draftV a) (draftV b) (by kernel_rfl) (by kernel_rfl)
  rw [show 9999 + 1 = 10000 from rfl] at hs
  rw [hs]
  obtain ⟨f0, f1, f2, f3, hf, h0, h1, h2, h3⟩ := fields4 draft_fields
  rw [hf]
  obtain ⟨p0, p1, p2, p3⟩ := draft_part a ha.1 w
  obtain ⟨q0, q1, q2, q3⟩ := draft_part b hb.1 w
  have e0 := run_equalIn_int (P := Tryz.prog) w 9998 3 .i64 .i64 a.kind b.kind Tryz.underlying3
  have e1 := run_equal_text (P := Tryz.prog) (w := w) 9998 9 a.key b.key Tryz.underlying9
  have e2 := run_equal_text (P := Tryz.prog) (w := w) 9998 9 a.val b.val Tryz.underlying9
  have e3 : (Op.equalIn 9999 25 (.agg (nums .u8 a.ref).toArray) (.agg (nums .u8 b.ref).toArray)).run Tryz.prog w = .ok (a.ref == b.ref) w := by
    rw [cells_txt ha.2, cells_txt hb.2, run_equalIn_bytes w 9997 25 5 32 Tryz.underlying25 Tryz.underlying5 Tryz.sizeOf5 (txt a.ref) (txt b.ref) (by rw [txt_len, ha.1]) (by rw [txt_len, hb.1]), txt_beq ha.2 hb.2]
  have h := eqFields_cons h0 (by decide) p0 q0 e0 (eqFields_cons h1 (by decide) p1 q1 e1 (eqFields_cons h2 (by decide) p2 q2 e2 (eqFields_cons h3 (by decide) p3 q3 e3 eqFields_nil)))
  rw [h, ← eqDB_eq]
  rfl
end Go.Proofs.YtandadfphlandaaGreatDoor
