/-
  Rows of blocks of K cells (arrays, structs), one behind the other: a block read, laid over, pushed; copy; a call of a function value.
-/
import Derived.Test.YthgfpojfnhkckaaDoorOps
import Derived.Laws.IdiomCopy
import Derived.Great.BuildSlice
import Derived.Deep.MidRow
namespace Go.Proofs.YthgfpojfnhkckaaDoor
open Go.RowKit

section
variable {α : Type}
/-- All of one width. -/
def Wide (K : Nat) (L : List (List α)) : Prop := ∀ x ∈ L, x.length = K
theorem Wide.nil (K : Nat) : Wide K ([] : List (List α)) := fun x hx => by cases hx
theorem Wide.getD {K : Nat} {L : List (List α)} (h : Wide K L) {i : Nat} (hi : i < L.length) : (L.getD i []).length = K := by
  rw [List.getD_eq_getElem?_getD, List.getElem?_eq_getElem hi]
  exact h _ (List.getElem_mem hi)
theorem Wide.set {K : Nat} {L : List (List α)} (h : Wide K L) (i : Nat) {x : List α} (hx : x.length = K) : Wide K (L.set i x) := fun z hz => by
  rcases List.mem_or_eq_of_mem_set hz with hz | rfl
  · exact h z hz
  · exact hx
theorem Wide.snoc {K : Nat} {L : List (List α)} (h : Wide K L) {x : List α} (hx : x.length = K) : Wide K (L ++ [x]) := fun z hz => by
  rcases List.mem_append.1 hz with hz | hz
  · exact h z hz
  · obtain rfl := List.mem_singleton.1 hz
    exact hx
theorem flat_len {K : Nat} {L : List (List α)} (h : Wide K L) : L.flatten.length = L.length * K := by
  induction L with
  | nil => simp
  | cons x L ih =>
    have h1 := h x (by simp)
    have h2 := ih fun y hy => h y (by simp [hy])
    rw [List.flatten_cons, List.length_append, h1, h2, List.length_cons, Nat.succ_mul]
    omega
theorem flat_get {K : Nat} {L : List (List α)} (h : Wide K L) : ∀ {i j : Nat}, i < L.length → j < K → L.flatten[K * i + j]? = (L.getD i [])[j]? := by
  induction L with
  | nil => intro i j hi _; cases hi
  | cons x L ih =>
    intro i j hi hj
    have h1 := h x (by simp)
    rw [List.flatten_cons]
    cases i with
    | zero => rw [Nat.mul_zero, Nat.zero_add, List.getElem?_append_left (by omega)]; rfl
    | succ i =>
      have e : K * (i + 1) + j = x.length + (K * i + j) := by rw [h1, Nat.mul_succ]; omega
      rw [e, List.getElem?_append_right (by omega), Nat.add_sub_cancel_left]
      exact ih (fun y hy => h y (by simp [hy])) (by simpa using hi) hj
end
/-- A list with others laid into it from a place on. -/
def layV (xs : List Value) : Nat → List Value → List Value
  | _, [] => xs
  | o, v :: r => layV (xs.set o v) (o + 1) r
theorem layV_len : ∀ (vs : List Value) (xs : List Value) (o : Nat), (layV xs o vs).length = xs.length
  | [], _, _ => rfl
  | v :: r, xs, o => by rw [layV, layV_len r, List.length_set]
theorem layV_get : ∀ (vs : List Value) (xs : List Value) (o j : Nat), o + vs.length ≤ xs.length → (layV xs o vs)[j]? = if o ≤ j ∧ j < o + vs.length then vs[j - o]? else xs[j]?
  | [], xs, o, j, _ => by rw [layV, if_neg (by simp only [List.length_nil]; omega)]
  | v :: r, xs, o, j, h => by
    simp only [List.length_cons] at h ⊢
    rw [layV, layV_get r (xs.set o v) (o + 1) j (by rw [List.length_set]; omega)]
    by_cases h1 : o + 1 ≤ j ∧ j < o + 1 + r.length
    · rw [if_pos h1, if_pos (by omega), show j - o = (j - (o + 1)) + 1 by omega, List.getElem?_cons_succ]
    · rw [if_neg h1]
      by_cases h2 : j = o
      · subst h2
        rw [if_pos (by omega), Nat.sub_self, List.getElem?_set_self (by omega)]
        rfl
      · rw [if_neg (by omega), List.getElem?_set_ne (by omega)]
theorem block_of {K q n : Nat} (hK : 0 < K) : ∃ i m, q = K * i + m ∧ m < K ∧ (q < n * K → i < n) := by
  refine ⟨q / K, q % K, (Nat.div_add_mod q K).symm, Nat.mod_lt _ hK, fun h => ?_⟩
  exact (Nat.div_lt_iff_lt_mul hK).2 h
theorem flat_set {K : Nat} (hK : 0 < K) {L : List (List Value)} (hL : Wide K L) {i : Nat} (hi : i < L.length) {x : List Value} (hx : x.length = K) : (L.set i x).flatten = layV L.flatten (K * i) x := by
  have hfl := flat_len hL
  have hS := hL.set i hx
  have hin : K * i + K ≤ L.length * K := by
    have : K * (i + 1) ≤ K * L.length := Nat.mul_le_mul_left K hi
    rw [Nat.mul_succ] at this
    rw [Nat.mul_comm L.length]
    exact this
  refine List.ext_getElem? fun q => ?_
  rw [layV_get _ _ _ _ (by rw [hx, hfl]; exact hin), hx]
  obtain ⟨r, m, rfl, hm, hr⟩ := block_of (K := K) (q := q) (n := L.length) hK
  by_cases hrl : r < L.length
  · rw [flat_get hS (by rw [List.length_set]; exact hrl) hm, flat_get hL hrl hm]
    by_cases hq : r = i
    · subst hq
      rw [if_pos ⟨by omega, by omega⟩, Nat.add_sub_cancel_left]
      simp [List.getD_eq_getElem?_getD, List.getElem?_set_self hi]
    · rw [if_neg (by
        intro h
        rcases Nat.lt_or_gt_of_ne hq with h1 | h1
        · have := Nat.mul_le_mul_left K h1
          rw [Nat.succ_eq_add_one, Nat.mul_succ] at this
          omega
        · have := Nat.mul_le_mul_left K h1
          rw [Nat.succ_eq_add_one, Nat.mul_succ] at this
          omega)]
      simp [List.getD_eq_getElem?_getD, List.getElem?_set_ne (Ne.symm hq)]
  · have hge : L.length * K ≤ K * r + m := by
      have := Nat.mul_le_mul_left K (Nat.le_of_not_lt hrl)
      rw [Nat.mul_comm L.length]
      omega
    have h1 : (L.set i x).flatten.length ≤ K * r + m := by rw [flat_len hS, List.length_set]; exact hge
    have h2 : L.flatten.length ≤ K * r + m := by rw [hfl]; exact hge
    rw [if_neg (by omega), List.getElem?_eq_none h1, List.getElem?_eq_none h2]
theorem ownsRow_layV {B g n c size : Nat} {e : TypeId} : ∀ (vs xs : List Value) (o : Nat) (w : World), w.ownsRow B e size (.slice (some ⟨g, 0, none⟩) n c) n xs → (w.setCells g o vs).ownsRow B e size (.slice (some ⟨g, 0, none⟩) n c) n (layV xs o vs)
  | [], _, _, _, h => h
  | v :: r, _, o, _, h => ownsRow_layV r _ (o + 1) _ (World.ownsRow.stored h o v).1
theorem But.cells {b : Nat} {w : World} : ∀ (vs : List Value) (o : Nat) (w' : World), But b w w' → But b w (w'.setCells b o vs)
  | [], _, _, h => h
  | v :: r, o, _, h => But.cells r (o + 1) _ (h.setCell o v)
/-- Values laid over a row of one-cell values. -/
theorem RowV.lay {g n c : Nat} {e : TypeId} {S : List Value} {w : World} (hn : n = S.length) (h : RowV e (.slice (some ⟨g, 0, none⟩) n c) S w) (o : Nat) (x : List Value) : RowV e (.slice (some ⟨g, 0, none⟩) n c) (layV S o x) (w.setCells g o x) := by
  subst hn
  have h1 := ownsRow_layV x S o w h
  unfold RowV
  rw [layV_len]
  exact h1
/-- A block laid over one of a row's. -/
theorem RowV.block {K g n c i : Nat} {e : TypeId} {L : List (List Value)} {w : World} (hK : 0 < K) (hn : n = L.flatten.length) (h : RowV e (.slice (some ⟨g, 0, none⟩) n c) L.flatten w) (hL : Wide K L) (hi : i < L.length) {x : List Value} (hx : x.length = K) :
    RowV e (.slice (some ⟨g, 0, none⟩) n c) (L.set i x).flatten (w.setCells g (K * i) x) := by
  rw [flat_set hK hL hi hx]
  exact h.lay hn (K * i) x
theorem RowV.blockAt {K g n c i j : Nat} {e : TypeId} {L : List (List Value)} {w : World} (hn : n = L.flatten.length) (h : RowV e (.slice (some ⟨g, 0, none⟩) n c) L.flatten w) (hL : Wide K L) (hi : i < L.length) (hj : j < K) {u : Value} (hu : (L.getD i [])[j]? = some u) :
    w.cell? ⟨g, K * i + j, none⟩ = some u := h.get hn (by rw [flat_get hL hi hj]; exact hu)

/-- A row of blocks of K cells, in a block of its own. -/
def RowK (K : Nat) (e : TypeId) (v : Value) (L : List (List Value)) (w : World) : Prop := w.ownsRow 0 e K v L.length L.flatten
section
variable {K : Nat} {e : TypeId} {v : Value} {L : List (List Value)} {w w' : World}
theorem RowK.nil (K : Nat) (e : TypeId) (w : World) : RowK K e (.slice none 0 0) [] w := World.ownsRow_nil _ _ _ _
theorem RowK.form (h : RowK K e v L w) : ∃ ao cap, v = .slice ao L.length cap := by
  rcases h.2 with ⟨h1, h2⟩ | ⟨g, cap, _, h1, _⟩
  · exact ⟨_, _, by rw [h1, h2]⟩
  · exact ⟨_, _, h1⟩
theorem RowK.formB (h : RowK K e v L w) (h0 : 0 < L.length) : ∃ g cap, v = .slice (some ⟨g, 0, none⟩) L.length cap := by
  rcases h.2 with ⟨_, h2⟩ | ⟨g, cap, cur, h1, _⟩
  · omega
  · exact ⟨g, cap, h1⟩
theorem RowK.lt (h : RowK K e v L w) {g : Nat} (hg : v.ownBlock = some g) : g < w.heap.size := (World.ownsRow.lt h g hg).2
theorem RowK.heap (h : RowK K e v L w) {g : Nat} (hg : v.ownBlock = some g) : ∃ cur, w.heap[g]? = some (.cells cur e (0, 0)) := by
  rcases h.2 with ⟨h1, _⟩ | ⟨g', cap, cur, h1, _, h3, _⟩
  · rw [h1] at hg; cases hg
  · rw [h1] at hg
    obtain rfl : g' = g := by simpa [Value.ownBlock] using hg
    exact ⟨cur, h3⟩
theorem RowK.only {O : Nat → Prop} (h : RowK K e v L w) (k : Only O w w') (hO : ∀ g, v.ownBlock = some g → ¬ O g) : RowK K e v L w' := by
  refine ⟨h.1, ?_⟩
  rcases h.2 with h2 | ⟨g, cap, cur, h1, h2, h3, h4⟩
  · exact .inl h2
  · exact .inr ⟨g, cap, cur, h1, h2, (k.block g (lt_of_block h3) (hO g (by rw [h1]; rfl))).trans h3, h4⟩
theorem RowK.below (h : RowK K e v L w) (k : Below w.heap.size w w') : RowK K e v L w' := h.only (Only.of (O := fun _ => False) k) (fun _ _ => id)
theorem RowK.but {b : Nat} (h : RowK K e v L w) (k : But b w w') (hb : v.ownBlock ≠ some b) : RowK K e v L w' :=
  h.only ((Only.refl (fun x => x = b) w).but k (.inl rfl)) (fun g hg e => hb (by rw [hg, e]))
theorem RowK.grown {row : Option Nat} (h : RowK K e v L w) (k : w.grownBy w' row) (hb : ∀ g, v.ownBlock = some g → row ≠ some g) : RowK K e v L w' :=
  h.only ((Only.refl (fun x => row = some x) w).grown k (fun _ hb => .inl hb)) (fun g hg e => hb g hg e)
theorem RowK.at {g n c i : Nat} (hn : n = L.length) (h : RowK K e (.slice (some ⟨g, 0, none⟩) n c) L w) (hL : Wide K L) (hi : i < L.length) : w.rangeAt g (K * i) (L.getD i []) := fun j u hj => by
  subst hn
  have hjl := (List.getElem?_eq_some_iff.1 hj).1
  rw [hL.getD hi] at hjl
  have hlt : K * i + j < L.length * K := by
    have := Nat.mul_le_mul_left K hi
    rw [Nat.succ_eq_add_one, Nat.mul_succ] at this
    rw [Nat.mul_comm L.length]
    omega
  rw [World.ownsRow.cellAt h _ hlt, flat_get hL hi hjl]
  exact hj
theorem RowK.notCells {t : TypeId} {cs : Array Value} {g : Nat} (h : RowK K e v L w) (hc : Cells g t cs w) (hne : e ≠ t) : v.ownBlock ≠ some g := fun hg => by
  obtain ⟨cur, hh⟩ := h.heap hg
  rw [hc] at hh
  simp only [Option.some.injEq, Obj.cells.injEq] at hh
  exact hne hh.2.1.symm
theorem RowK.notRow {t : TypeId} {u : Value} {T : List Value} {g : Nat} (h : RowK K e v L w) (hr : RowV t u T w) (hne : e ≠ t) (hg : v.ownBlock = some g) : u.ownBlock ≠ some g := fun hu => by
  obtain ⟨cur, h1⟩ := h.heap hg
  obtain ⟨cur', h2⟩ := hr.heap hu
  rw [h1] at h2
  simp only [Option.some.injEq, Obj.cells.injEq] at h2
  exact hne h2.2.1
end

/-! ### Operations -/
section
variable {P : Program} {o : Oper} {a : Act} {w : World} {K : Act → World → Prop} {Q : Exit → Act → World → Prop}
/-- copy: all is read before anything is written. -/
theorem op_copy_cells (d s : Operand) (dT sT : TypeId) (ho : o.op = .call { callee := .builtin .copy, args := #[d, s], argTypes := #[dT, sT] }) (elem : TypeId) (hu : P.underlying dT = some (.slice elem)) (hs : (P.info? elem).map (·.size) = some 1)
    (b off dn dc : Nat) (ad : Addr) (sn sc : Nat) (cs : List Value) (hd : a.eval d = .slice (some ⟨b, off, none⟩) dn dc) (hx : a.eval s = .slice (some ad) sn sc) (hn : cs.length = Nat.min sn dn)
    (hsrc : ∀ j v, cs[j]? = some v → w.cell? (ad.add j) = some v) (hc : ∀ j, j < cs.length → (w.cell? ⟨b, off + j, none⟩).isSome = true) (hf : ∀ j, j < cs.length → w.frozen? ⟨b, off + j, none⟩ = false) (h1 : ∀ v ∈ cs, v.oneCell' = true)
    (h : K (a.put o.dst (goInt cs.length)) (w.setCells b off cs)) : OpWp P o a w K Q := by
  have hr := run_copy_cells (P := P) w dT sT o.type elem b off dn dc ad sn sc cs hu hs hn hsrc hc hf h1
  refine ⟨?_⟩
  unfold Oper.wp execOp
  simp only [ho, resolve, invoke, builtin, Sem.run_bind, Sem.run_pure, Result.andThen_ok, List.map_toArray, List.map_cons, List.map_nil, hd, hx, hr]
  exact h
theorem wpList_copy_cells {ops : Array Oper} {rest : List Oper} (hgd : o.guard = none) (d s : Operand) (dT sT : TypeId) (ho : o.op = .call { callee := .builtin .copy, args := #[d, s], argTypes := #[dT, sT] }) (elem : TypeId) (hu : P.underlying dT = some (.slice elem)) (hs : (P.info? elem).map (·.size) = some 1)
    (b off dn dc : Nat) (ad : Addr) (sn sc : Nat) (cs : List Value) (hd : a.eval d = .slice (some ⟨b, off, none⟩) dn dc) (hx : a.eval s = .slice (some ad) sn sc) (hn : cs.length = Nat.min sn dn)
    (hsrc : ∀ j v, cs[j]? = some v → w.cell? (ad.add j) = some v) (hc : ∀ j, j < cs.length → (w.cell? ⟨b, off + j, none⟩).isSome = true) (hf : ∀ j, j < cs.length → w.frozen? ⟨b, off + j, none⟩ = false) (h1 : ∀ v ∈ cs, v.oneCell' = true)
    (h : wpList P ops Q rest (a.put o.dst (goInt cs.length)) (w.setCells b off cs)) : wpList P ops Q (o :: rest) a w :=
  wpList_plain hgd fun _ hK => (op_copy_cells d s dT sT ho elem hu hs b off dn dc ad sn sc cs hd hx hn hsrc hc hf h1 (hK _ _ h)).out
theorem setCells_nil (w : World) (b o : Nat) : w.setCells b o [] = w := rfl
/-- copy of bytes that came in, no more than there is room for. -/
theorem wpList_copy_in {ops : Array Oper} {rest : List Oper} (hgd : o.guard = none) (d s : Operand) (dT sT : TypeId) (ho : o.op = .call { callee := .builtin .copy, args := #[d, s], argTypes := #[dT, sT] }) (elem : TypeId) (hu : P.underlying dT = some (.slice elem)) (hs : (P.info? elem).map (·.size) = some 1)
    (b off dn dc : Nat) (so : Option Addr) (sn sc : Nat) (k : IntKind) (l : List Nat) (hd : a.eval d = .slice (some ⟨b, off, none⟩) dn dc) (hx : a.eval s = .slice so sn sc) (hsn : sn = l.length) (hle : l.length ≤ dn)
    (hsrc : NumsAt so k l w) (hc : ∀ j, j < l.length → (w.cell? ⟨b, off + j, none⟩).isSome = true) (hf : ∀ j, j < l.length → w.frozen? ⟨b, off + j, none⟩ = false)
    (h : wpList P ops Q rest (a.put o.dst (goInt l.length)) (w.setCells b off (nums k l))) : wpList P ops Q (o :: rest) a w := by
  subst hsn
  by_cases h0 : l = []
  · subst h0
    have hr := run_copy_none (P := P) w dT sT o.type elem (some ⟨b, off, none⟩) so dn dc 0 sc hu hs (Nat.zero_min _)
    refine wpList_plain hgd fun K hK => ?_
    unfold Oper.wp execOp
    simp only [ho, resolve, invoke, builtin, Sem.run_bind, Sem.run_pure, Result.andThen_ok, List.map_toArray, List.map_cons, List.map_nil, hd, hx, List.length_nil, hr]
    exact hK _ _ h
  · rcases hsrc with h1 | ⟨g, so', rfl, _, h2⟩
    · exact absurd h1 h0
    · refine wpList_copy_cells hgd d s dT sT ho elem hu hs b off dn dc ⟨g, so', none⟩ l.length sc (nums k l) hd hx (by rw [nums_len]; exact (Nat.min_eq_left hle).symm) (fun j v hj => ?_) (fun j hj => hc j (by rwa [nums_len] at hj)) (fun j hj => hf j (by rwa [nums_len] at hj)) (nums_one k l) (by rw [nums_len]; exact h)
      have hjl := (List.getElem?_eq_some_iff.1 hj).1
      rw [nums_len] at hjl
      rw [Addr.add_mid, h2 j hjl, ← hj, nums, List.getElem?_map, List.getElem?_eq_getElem hjl]
      rfl
/-- New memory of a great type. -/
theorem run_alloc_of (ty : TypeId) (z : List Value) (hz : (P.info? ty).bind (·.zero) = some (.agg z.toArray)) (w : World) : (Instr.alloc ty true (.tuple #[])).run P w = .ok (.pointer (some ⟨w.heap.size, 0, none⟩)) (w.alloc (.cells z.toArray ty)) := by
  obtain ⟨i, hi, hzz⟩ := Option.bind_eq_some_iff.1 hz
  simp [Instr.alloc, zeroValue, typeInfo, hi, hzz, go_sem]
theorem wpList_alloc_of {ops : Array Oper} {rest : List Oper} (hgd : o.guard = none) (ty : TypeId) (ho : o.op = .alloc ty) (z : List Value) (hz : (P.info? ty).bind (·.zero) = some (.agg z.toArray))
    (h : wpList P ops Q rest (a.put o.dst (.pointer (some ⟨w.heap.size, 0, none⟩))) (w.alloc (.cells z.toArray ty))) : wpList P ops Q (o :: rest) a w :=
  wpList_plain hgd fun _ hK => (op_alloc ty ho z.toArray (run_alloc_of ty z hz) (hK _ _ h)).out
/-- A literal slice of one struct or array. -/
theorem run_build_wide (t e : TypeId) (us : List Value) (z : Value) (bytes size : Nat) (ht : P.underlying t = some (.slice e)) (hinfo : (P.info? e).map (fun i => (i.zero, i.size, i.bytes)) = some (some z, size, bytes)) (hs : us.length = size) (h0 : 0 < size) (hsm : size ≤ 100000) (w : World) :
    (Instr.buildSlice t 1 #[(0, .agg us.toArray)]).run P w = .ok (.slice (some ⟨w.heap.size, 0, none⟩) 1 1) (w.alloc (.cells us.toArray e)) := by
  obtain ⟨i, hi, hz0, hz1, _⟩ := info_parts hinfo
  refine run_buildSlice (P := P) w t e 1 #[(0, .agg us.toArray)] us.toArray i z ht hi hz0 (by rw [hz1]; omega) (by rw [hz1]; omega) ?_
  rw [hz1]
  have h1 := Great.fill_whole (s := size) h0 [Value.agg us.toArray] ((Array.range (1 * size)).map (z.cells[· % z.cells.size]!))
    (fun v hv => by obtain rfl := List.mem_singleton.1 hv; show us.toArray.size = size; rw [List.size_toArray, hs]) (by simp)
  have e1 : (#[(0, Value.agg us.toArray)] : Array (Nat × Value)).toList = ([Value.agg us.toArray].zipIdx 0).map fun x => (x.2, x.1) := by simp [List.zipIdx_cons]
  have e2 : ([Value.agg us.toArray].flatMap fun v => v.cells.toList).toArray = us.toArray := by
    rw [List.flatMap_cons, List.flatMap_nil, List.append_nil]
    rfl
  rw [e1, h1, e2]
theorem op_build_wide (t e : TypeId) (x : Operand) (ho : o.op = .buildSlice t 1 #[(0, x)]) (us : List Value) (hx : a.eval x = .agg us.toArray)
    (hr : ∀ w, (Instr.buildSlice t 1 #[(0, .agg us.toArray)]).run P w = .ok (.slice (some ⟨w.heap.size, 0, none⟩) 1 1) (w.alloc (.cells us.toArray e)))
    (h : K (a.put o.dst (.slice (some ⟨w.heap.size, 0, none⟩) 1 1)) (w.alloc (.cells us.toArray e))) : OpWp P o a w K Q := by
  refine ⟨?_⟩
  have e1 : ((#[(0, x)] : Array (Nat × Operand)).map fun (i, x) => (i, a.eval x)) = #[(0, .agg us.toArray)] := by simp [hx]
  unfold Oper.wp execOp
  simp only [ho, e1, Sem.run_bind, Sem.run_pure, hr, Result.andThen_ok]
  exact h
/-- One block pushed onto a row. -/
theorem op_push_wide (s x : Operand) (t e : TypeId) (ho : o.op = .call { callee := .builtin .append, args := #[s, x], argTypes := #[t, t] })
    (z : Value) (bytes size : Nat) (hzs : z.cells.size = size) (h0 : 0 < size) (hby : bytes ≤ 1024) (ht : P.underlying t = some (.slice e)) (hinfo : (P.info? e).map (fun i => (i.zero, i.size, i.bytes)) = some (some z, size, bytes))
    (v : Value) (L : List (List Value)) (us : List Value) (hul : us.length = size) (hu : ∀ y ∈ us, y.oneCell' = true) (ad : Addr) (c : Nat) (hs : a.eval s = v) (hown : RowK size e v L w) (hx : a.eval x = .slice (some ad) 1 c) (hnews : ∀ j q, us[j]? = some q → w.cell? (ad.add j) = some q)
    (h63 : L.length ≤ 1000000)
    (h : ∀ v' w', RowK size e v' (L ++ [us]) w' → w.grownBy w' v.ownBlock → (v'.ownBlock = v.ownBlock ∨ v'.ownBlock = some w.heap.size) → K (a.put o.dst v') w') : OpWp P o a w K Q := by
  obtain ⟨i, hi, hz0, hz1, hz2⟩ := info_parts hinfo
  obtain ⟨v', w', hr, h2, h3, _, h5⟩ := run_append_own_at (P := P) w 0 t o.type e i z size bytes ht hi hz0 hz1 hz2 hzs h0 v L.length L.flatten hown ad 1 c us (by rw [hul, Nat.one_mul]) hnews hu (by unfold maxLen; omega)
    (Nat.le_trans (Nat.mul_le_mul (show L.length + 1 ≤ 1000001 by omega) hby) (by decide)) (Nat.zero_le _)
  refine ⟨?_⟩
  unfold Oper.wp execOp
  simp only [ho, resolve, invoke, builtin, Sem.run_bind, Sem.run_pure, Result.andThen_ok, List.map_toArray, List.map_cons, List.map_nil, hs, hx, hr]
  refine h v' w' ?_ h3 h5
  show w'.ownsRow 0 e size v' (L ++ [us]).length (L ++ [us]).flatten
  rw [List.length_append, List.flatten_append, List.flatten_cons, List.flatten_nil, List.append_nil]
  exact h2
/-- make([]T, n). -/
theorem op_make_full (l c : Operand) (t : TypeId) (ho : o.op = .makeSlice t l c) (base : Nat) (e : TypeId) (z : Value) (size bytes : Nat) (ht : P.underlying t = some (.slice e)) (hinfo : (P.info? e).map (fun i => (i.zero, i.size, i.bytes)) = some (some z, size, bytes))
    (kl kc : IntKind) (n : Nat) (hl : a.eval l = .int kl (n : Int)) (hc : a.eval c = .int kc (n : Int)) (b2 : bytes * n ≤ 281474976710656) (b3 : n ≤ maxLen) (b4 : base ≤ w.heap.size)
    (h : ∀ w', w'.ownsRow base e size (.slice (some ⟨w.heap.size, 0, none⟩) n n) n (madeCells z.cells (n * size)).toList → w.grownBy w' none → K (a.put o.dst (.slice (some ⟨w.heap.size, 0, none⟩) n n)) w') : OpWp P o a w K Q := by
  obtain ⟨i, hi, hz0, hz1, hz2⟩ := info_parts hinfo
  obtain ⟨w', hr, h1, h2⟩ := run_make_full (P := P) w base t e i z size ht hi hz0 hz1 kl kc n (by rw [hz2]; exact b2) b3 b4
  refine ⟨?_⟩
  unfold Oper.wp execOp
  simp only [ho, hl, hc, Sem.run_bind, Sem.run_pure, hr, Result.andThen_ok]
  exact h w' h1 h2
/-- A call of a function value. -/
theorem op_call_fv {f : FuncId} {fn : Func} (hf : P.funcs[f]? = some fn) (hname : (fn.name == "runtime.NumGoroutine") = false) (hb : fn.body.isNone = false)
    {x : Operand} {args : Array Operand} {ts : Array TypeId} (ho : o.op = .call { callee := .value x, args := args, argTypes := ts }) (first caps : Array Value) (hx : a.eval x = .func (.func f) first caps) (vs : List Value) (hv : args.toList.map a.eval = vs) {C : Ending → World → Prop}
    (hc : Calls P f (first ++ vs.toArray ++ caps) w C) (h : ∀ e w', C e w' → ∃ v, e = .returned v ∧ K (a.put o.dst v) w') : OpWp P o a w K Q := by
  have hr : (execOp a.eval o).run P w = .ok (.enter f (first ++ vs.toArray ++ caps)) w := by
    have h1 : ¬ fn.name = "runtime.NumGoroutine" := by simpa using hname
    have h2 : ¬ fn.body = none := by intro e; rw [e] at hb; cases hb
    have ha : args.map a.eval = vs.toArray := by rw [← hv, ← Array.toList_map, Array.toArray_toList]
    obtain ⟨dst, op, ty, pos, after, guard⟩ := o
    simp only at ho
    subst ho
    have e : execOp a.eval { dst, op := .call { callee := .value x, args := args, argTypes := ts }, type := ty, pos, after, guard } = (Deferred.ofValue (a.eval x) (args.map a.eval) >>= fun d => invoke d.target d.args) := rfl
    rw [e, hx, ha]
    have e2 : (Deferred.ofValue (.func (.func f) first caps) vs.toArray >>= fun d => invoke d.target d.args) = (pure { target := .fn (.func f) caps, args := first ++ vs.toArray } >>= fun (d : Deferred) => invoke d.target d.args) := rfl
    rw [e2, Sem.run_bind, Sem.run_pure, Result.andThen_ok]
    have e3 : invoke (.fn (.func f) caps) (first ++ vs.toArray) = callFunc f (first ++ vs.toArray ++ caps) := rfl
    rw [e3]
    simp [callFunc, Sem.run_bind, hf, h1, h2, go_sem]
  refine ⟨?_⟩
  unfold Oper.wp
  rw [hr, Oper.upon_enter]
  refine hc.mono fun e w' he => ?_
  obtain ⟨v, rfl, hk⟩ := h e w' he
  exact hk
theorem wpList_call_fv {ops : Array Oper} {rest : List Oper} (hgd : o.guard = none) {f : FuncId} {fn : Func} (hf : P.funcs[f]? = some fn) (hname : (fn.name == "runtime.NumGoroutine") = false) (hb : fn.body.isNone = false)
    (x : Operand) (args : Array Operand) (ts : Array TypeId) (ho : o.op = .call { callee := .value x, args := args, argTypes := ts }) (first caps : Array Value) (hx : a.eval x = .func (.func f) first caps) (vs : List Value) (hv : args.toList.map a.eval = vs) {C : Ending → World → Prop}
    (hc : Calls P f (first ++ vs.toArray ++ caps) w C) (h : ∀ e w', C e w' → ∃ v, e = .returned v ∧ wpList P ops Q rest (a.put o.dst v) w') : wpList P ops Q (o :: rest) a w :=
  wpList_plain hgd fun _ hK => (op_call_fv hf hname hb ho first caps hx vs hv hc fun e w' he => by
    obtain ⟨v, hv, hk⟩ := h e w' he
    exact ⟨v, hv, hK _ _ hk⟩).out
end

/-! ### 'x.f = append(x.f, v)', v a struct: number i lays the literal, number j pushes it -/
structure PushInvK (i j : Nat) (A M : World → Prop) (E : World → Value → World → Prop) (us : List Value) (s : Nat → Bool) (V : Nat → Value) (w : World) : Prop where
  always : A w
  mid : s j = false → M w
  lit : s i = true → s j = false → ∃ g, V i = .slice (some ⟨g, 0, none⟩) 1 1 ∧ ∀ q y, us[q]? = some y → w.cell? ((⟨g, 0, none⟩ : Addr).add q) = some y
  fin : s j = true → ∃ wa, M wa ∧ E wa (V j) w
  late : s j = true → s i = true
section
variable {i j : Nat} {A M : World → Prop} {E : World → Value → World → Prop} {us : List Value} {s : Nat → Bool} {V : Nat → Value} {w : World}
theorem PushInvK.none (hA : A w) (hM : M w) : PushInvK i j A M E us (fun _ => false) V w := ⟨hA, fun _ => hM, (fun h => by cases h), (fun h => by cases h), (fun h => by cases h)⟩
theorem PushInvK.ne {k : Nat} {v : Value} (h : PushInvK i j A M E us s V w) (hi : i ≠ k) (hj : j ≠ k) : PushInvK i j A M E us (fun n => s n || n == k) (upd V k v) w := by
  have e1 : (s i || i == k) = s i := by simp [hi]
  have e2 : (s j || j == k) = s j := by simp [hj]
  refine ⟨h.always, fun hh => h.mid (by rw [← e2]; exact hh), fun h1 h2 => ?_, fun hh => ?_, fun hh => ?_⟩
  · obtain ⟨g, e, hc⟩ := h.lit (by rw [← e1]; exact h1) (by rw [← e2]; exact h2)
    exact ⟨g, by rw [upd_ne V v hi]; exact e, hc⟩
  · obtain ⟨wa, hm, he⟩ := h.fin (by rw [← e2]; exact hh)
    exact ⟨wa, hm, by rw [upd_ne V v hj]; exact he⟩
  · show (s i || i == k) = true
    rw [e1]
    exact h.late (by rw [← e2]; exact hh)
theorem PushInvK.turn {k : Nat} {v : Value} {w' : World} (h : PushInvK i j A M E us s V w) (hu : s i = false) (hi : i ≠ k) (hj : j ≠ k) (hA : A w') (hM : M w → M w') : PushInvK i j A M E us (fun n => s n || n == k) (upd V k v) w' := by
  have e1 : (s i || i == k) = s i := by simp [hi]
  have e2 : (s j || j == k) = s j := by simp [hj]
  have hjf : s j = false := by
    cases hh : s j with
    | false => rfl
    | true => rw [h.late hh] at hu; cases hu
  refine ⟨hA, fun _ => hM (h.mid hjf), fun h1 _ => ?_, fun hh => ?_, fun hh => ?_⟩
  · exact absurd (show (s i || i == k) = true from h1) (by rw [e1, hu]; decide)
  · exact absurd (show (s j || j == k) = true from hh) (by rw [e2, hjf]; decide)
  · exact absurd (show (s j || j == k) = true from hh) (by rw [e2, hjf]; decide)
theorem PushInvK.build {e : TypeId} (h : PushInvK i j A M E us s V w) (hu : s i = false) (hne : i ≠ j) (hA : A (w.alloc (.cells us.toArray e))) (hM : M w → M (w.alloc (.cells us.toArray e))) :
    PushInvK i j A M E us (fun n => s n || n == i) (upd V i (.slice (some ⟨w.heap.size, 0, Option.none⟩) 1 1)) (w.alloc (.cells us.toArray e)) := by
  have hj : s j = false := by
    cases hh : s j with
    | false => rfl
    | true => rw [h.late hh] at hu; cases hu
  have e2 : (s j || j == i) = false := by simp [hj, Ne.symm hne]
  refine ⟨hA, fun _ => hM (h.mid hj), fun _ _ => ⟨w.heap.size, upd_same _ _ _, fun q y hq => by rw [Addr.add_lit, Nat.zero_add, Lib.cell_of_heap (heap_alloc_new w _), List.getElem?_toArray]; exact hq⟩, fun hh => ?_, fun hh => ?_⟩
  · exact absurd (show (s j || j == i) = true from hh) (by rw [e2]; decide)
  · exact absurd (show (s j || j == i) = true from hh) (by rw [e2]; decide)
theorem PushInvK.push {v : Value} {w' : World} (h : PushInvK i j A M E us s V w) (hi : s i = true) (hj : s j = false) (hA : A w') (hE : E w v w') : PushInvK i j A M E us (fun n => s n || n == j) (upd V j v) w' := by
  have e : (s j || j == j) = true := by simp
  refine ⟨hA, fun hh => ?_, fun _ hh => ?_, fun _ => ⟨w, h.mid hj, by rw [upd_same]; exact hE⟩, fun _ => ?_⟩
  · exact absurd (show (s j || j == j) = false from hh) (by rw [e]; decide)
  · exact absurd (show (s j || j == j) = false from hh) (by rw [e]; decide)
  · show (s i || i == j) = true
    rw [hi]; rfl
end
end Go.Proofs.YthgfpojfnhkckaaDoor
