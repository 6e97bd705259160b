/-
  Rows of one-cell values that need not begin at their block's head: cut, pushed onto.
-/
import Derived.Test.YtmkelboncapkpaaOps
import Derived.ArgAppend
namespace Go.Proofs.Ytmkelboncapkpaa
open Go.RowKit

/-- A row that lies somewhere in a block of the call's own. -/
def TailV (e : TypeId) (v : Value) (S : List Value) (w : World) : Prop :=
  ∃ g off cap cur, v = .slice (some ⟨g, off, none⟩) S.length cap ∧ w.heap[g]? = some (.cells cur e (0, 0)) ∧ S.length ≤ cap ∧ off + cap ≤ cur.size ∧ ∀ j u, S[j]? = some u → cur[off + j]? = some u
section
variable {e : TypeId} {v : Value} {S : List Value} {w w' : World}
theorem TailV.of {h0 : 0 < S.length} (h : RowV e v S w) : TailV e v S w := by
  rcases h.2 with ⟨_, h1⟩ | ⟨g, cap, cur, h1, _, h2, h3, _, h4, h5⟩
  · omega
  · refine ⟨g, 0, cap, cur, h1, h2, h3, by omega, fun j u hj => ?_⟩
    have hl : j < S.length := (List.getElem?_eq_some_iff.1 hj).1
    rw [← h5, List.getElem?_take, if_pos (by omega)] at hj
    rw [Nat.zero_add]
    simpa using hj
theorem TailV.lit (w : World) (cs : List Value) : TailV e (.slice (some ⟨w.heap.size, 0, none⟩) cs.length cs.length) cs (w.alloc (.cells cs.toArray e)) :=
  ⟨w.heap.size, 0, cs.length, cs.toArray, rfl, heap_alloc_new w _, Nat.le_refl _, by simp, fun j u hj => by simpa using hj⟩
theorem TailV.form (h : TailV e v S w) : ∃ g off cap, v = .slice (some ⟨g, off, none⟩) S.length cap ∧ v.ownBlock = some g ∧ S.length ≤ cap := by
  obtain ⟨g, off, cap, cur, rfl, _, h3, _, _⟩ := h
  exact ⟨g, off, cap, rfl, rfl, h3⟩
theorem TailV.heap (h : TailV e v S w) {g : Nat} (hg : v.ownBlock = some g) : ∃ cur, w.heap[g]? = some (.cells cur e (0, 0)) := by
  obtain ⟨g', off, cap, cur, rfl, h2, _, _, _⟩ := h
  obtain rfl : g' = g := Option.some.inj hg
  exact ⟨cur, h2⟩
theorem TailV.lt (h : TailV e v S w) {g : Nat} (hg : v.ownBlock = some g) : g < w.heap.size := by
  obtain ⟨cur, hc⟩ := h.heap hg
  exact lt_of_block hc
theorem TailV.kept (h : TailV e v S w) (hb : ∀ g, v.ownBlock = some g → w'.heap[g]? = w.heap[g]?) : TailV e v S w' := by
  obtain ⟨g, off, cap, cur, rfl, h2, h3, h4, h5⟩ := h
  exact ⟨g, off, cap, cur, rfl, (hb g rfl).trans h2, h3, h4, h5⟩
theorem TailV.only {O : Nat → Prop} (h : TailV e v S w) (k : Only O w w') (hO : ∀ g, v.ownBlock = some g → ¬ O g) : TailV e v S w' := h.kept fun g hg => k.block g (h.lt hg) (hO g hg)
theorem TailV.below (h : TailV e v S w) (k : Below w.heap.size w w') : TailV e v S w' := h.only (Only.of (O := fun _ => False) k) (fun _ _ => id)
theorem TailV.get {g off n cap : Nat} (h : TailV e (.slice (some ⟨g, off, none⟩) n cap) S w) {j : Nat} {u : Value} (hj : S[j]? = some u) : w.cell? ⟨g, off + j, none⟩ = some u := by
  obtain ⟨g', off', cap', cur, h1, h2, _, _, h5⟩ := h
  simp only [Value.slice.injEq, Option.some.injEq, Addr.mk.injEq, and_true] at h1
  obtain ⟨⟨rfl, rfl⟩, _, _⟩ := h1
  rw [Lib.cell_of_heap h2]
  exact h5 j u hj
theorem TailV.len {g off n cap : Nat} (h : TailV e (.slice (some ⟨g, off, none⟩) n cap) S w) : n = S.length ∧ n ≤ cap := by
  obtain ⟨g', off', cap', cur, h1, h2, h3, _, _⟩ := h
  simp only [Value.slice.injEq] at h1
  obtain ⟨_, rfl, rfl⟩ := h1
  exact ⟨rfl, h3⟩
/-- Its end, from k on. -/
theorem TailV.cut {g off n cap : Nat} (h : TailV e (.slice (some ⟨g, off, none⟩) n cap) S w) {k : Nat} (hk : k ≤ n) : TailV e (.slice (some ⟨g, off + k, none⟩) (n - k) (cap - k)) (S.drop k) w := by
  obtain ⟨g', off', cap', cur, h1, h2, h3, h4, h5⟩ := h
  simp only [Value.slice.injEq, Option.some.injEq, Addr.mk.injEq, and_true] at h1
  obtain ⟨⟨rfl, rfl⟩, rfl, rfl⟩ := h1
  refine ⟨g, off + k, cap - k, cur, by rw [List.length_drop], h2, by rw [List.length_drop]; omega, by omega, fun j u hj => ?_⟩
  rw [List.getElem?_drop] at hj
  rw [Nat.add_assoc]
  exact h5 _ _ hj
end

/-- One value pushed. -/
theorem run_push_tail {P : Program} (t ty e : TypeId) (z : Value) (bytes : Nat) (hzs : z.cells.size = 1) (hby : bytes ≤ 1024) (ht : P.underlying t = some (.slice e)) (hinfo : (P.info? e).map (fun i => (i.zero, i.size, i.bytes)) = some (some z, 1, bytes))
    (v : Value) (S : List Value) (u : Value) (hu : u.oneCell' = true) (ad : Addr) (c : Nat) (w : World) (h : TailV e v S w) (hnews : w.cell? (ad.add 0) = some u) (h63 : S.length ≤ 1000000) :
    ∃ v' w', (Builtin.append_ #[t, t] ty #[v, .slice (some ad) 1 c]).run P w = .ok v' w' ∧ TailV e v' (S ++ [u]) w' ∧ w.grownBy w' v.ownBlock ∧ (v'.ownBlock = v.ownBlock ∨ v'.ownBlock = some w.heap.size) := by
  obtain ⟨i, hi, hz0, hz1, hz2⟩ := info_parts hinfo
  obtain ⟨g, off, cap, cur, rfl, h2, h3, h4, h5⟩ := h
  have hnew : ∀ j q, [u][j]? = some q → w.cell? (ad.add j) = some q := fun j q hj => by
    have hj0 : j = 0 := by
      have := (List.getElem?_eq_some_iff.1 hj).1
      simpa using this
    subst hj0
    obtain rfl : u = q := by simpa using hj
    exact hnews
  by_cases hroom : S.length + 1 ≤ cap
  · have hr := run_append_room_cells (P := P) w t ty e i ht hi g off S.length cap ad 1 c [u] (by rw [hz1]; rfl) hnew (fun q hq => by
      obtain rfl := List.mem_singleton.1 hq
      exact hu) hroom (fun j hj => by
        have hj0 : j = 0 := by simpa using hj
        subst hj0
        rw [Lib.cell_of_heap h2, hz1, Array.getElem?_eq_getElem (by omega)]
        rfl) (fun j hj => by simp [World.frozen?, h2])
    rw [hz1, Nat.mul_one] at hr
    have hs : w.setCells g (off + S.length) [u] = w.setCell ⟨g, off + S.length, none⟩ u := by simp [World.setCells]
    rw [hs] at hr
    have hbk := heap_setCell_at (w := w) h2 (o := off + S.length) (v := u)
    refine ⟨_, _, hr, ⟨g, off, cap, _, by rw [List.length_append]; rfl, hbk, by rw [List.length_append]; exact hroom, by rw [Array.size_setIfInBounds]; exact h4, fun j q hj => ?_⟩, ?_, .inl rfl⟩
    · by_cases hjl : j < S.length
      · rw [List.getElem?_append_left hjl] at hj
        rw [Array.getElem?_setIfInBounds_ne (by omega)]
        exact h5 j q hj
      · have hlt := (List.getElem?_eq_some_iff.1 hj).1
        rw [List.length_append, List.length_singleton] at hlt
        obtain rfl : j = S.length := by omega
        rw [List.getElem?_append_right (Nat.le_refl _), Nat.sub_self] at hj
        obtain rfl : u = q := by simpa using hj
        rw [Array.getElem?_setIfInBounds_self_of_lt (by omega)]
    · have hb := (But.refl g w).setCell (off + S.length) u
      exact ⟨hb.os, hb.tape, hb.output, hb.size, fun k hk hne => hb.block k hk (fun e => hne (by rw [e]; rfl))⟩
  · have hb : (S.length + 1) * i.bytes ≤ 140737488355328 := by
      rw [hz2]
      exact Nat.le_trans (Nat.mul_le_mul (show S.length + 1 ≤ 1000001 by omega) hby) (by decide)
    have hr := run_append_grow (P := P) w t ty e i z ht hi hz0 ⟨g, off, none⟩ S.length cap S (by rw [hz1, Nat.mul_one]) (fun j q hj => by
      rw [Addr.add_mid, Lib.cell_of_heap h2]
      exact h5 j q hj) ad 1 c [u] (by rw [hz1]; rfl) hnew (by omega) (by omega) (growslice_fits (by omega) hb)
    have hlen : (S ++ [u]).length = S.length + 1 := by rw [List.length_append]; rfl
    have hge := grownCap_ge w (S.length + 1) cap e
    refine ⟨_, _, hr, ⟨w.heap.size, 0, _, _, by rw [hlen], heap_alloc_new w.drew _, by rw [hlen]; exact hge, ?_, fun j q hj => ?_⟩, ⟨rfl, rfl, rfl, by simp, fun k hk _ => heap_alloc_old w.drew _ hk⟩, .inr rfl⟩
    · simp only [Array.size_append, List.size_toArray, size_zeroCells, hzs, List.length_singleton]
      omega
    · rw [Nat.zero_add, ← Array.getElem?_toList]
      simp only [Array.toList_append, List.append_assoc]
      rw [← List.append_assoc, List.getElem?_append_left (List.getElem?_eq_some_iff.1 hj).1]
      exact hj
theorem op_push_tail {P : Program} {o : Oper} {a : Act} {w : World} {K : Act → World → Prop} {Q : Exit → Act → World → Prop} (s x : Operand) (t e : TypeId) (ho : o.op = .call { callee := .builtin .append, args := #[s, x], argTypes := #[t, t] })
    (z : Value) (bytes : Nat) (hzs : z.cells.size = 1) (hby : bytes ≤ 1024) (ht : P.underlying t = some (.slice e)) (hinfo : (P.info? e).map (fun i => (i.zero, i.size, i.bytes)) = some (some z, 1, bytes))
    (v : Value) (S : List Value) (u : Value) (hu : u.oneCell' = true) (ad : Addr) (c : Nat) (hs : a.eval s = v) (hown : TailV e v S w) (hx : a.eval x = .slice (some ad) 1 c) (hnews : w.cell? (ad.add 0) = some u)
    (h63 : S.length ≤ 1000000)
    (h : ∀ v' w', TailV e v' (S ++ [u]) w' → w.grownBy w' v.ownBlock → (v'.ownBlock = v.ownBlock ∨ v'.ownBlock = some w.heap.size) → K (a.put o.dst v') w') : OpWp P o a w K Q := by
  obtain ⟨v', w', hr, h2, h3, h4⟩ := run_push_tail (P := P) t o.type e z bytes hzs hby ht hinfo v S u hu ad c w hown hnews h63
  refine ⟨?_⟩
  unfold Oper.wp execOp
  simp only [ho, resolve, invoke, builtin, Sem.run_bind, Sem.run_pure, Result.andThen_ok, List.map_toArray, List.map_cons, List.map_nil, hs, hx, hr]
  exact h v' w' h2 h3 h4
end Go.Proofs.Ytmkelboncapkpaa
