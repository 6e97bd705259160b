/-
  A row of numbers that the call owns, the mark behind its end being whatever: what '[]byte(s)' lays, and what is pushed behind it.
-/
import Derived.Test.YtjgjgmjdoihmiaaDoorKnown
namespace Go.Proofs.YtjgjgmjdoihmiaaDoor
open Go.RowKit

def OwnT (B : Nat) (e : TypeId) (k : IntKind) (v : Value) (l : List Nat) (w : World) : Prop :=
  ∃ g cap cur fz, v = .slice (some ⟨g, 0, none⟩) l.length cap ∧ B ≤ g ∧ w.heap[g]? = some (.cells cur e fz) ∧ (fz.2 = 0 ∨ cap ≤ fz.1) ∧ l.length ≤ cap ∧ cap ≤ maxLen ∧ cur.size = cap ∧ cur.toList.take l.length = nums k l

theorem nums_len (k : IntKind) (l : List Nat) : (nums k l).length = l.length := by simp [nums]

theorem OwnT.lt {B : Nat} {e : TypeId} {k : IntKind} {v : Value} {l : List Nat} {w : World} (h : OwnT B e k v l w) : ∀ g, v.ownBlock = some g → B ≤ g ∧ g < w.heap.size := by
  obtain ⟨g, cap, cur, fz, rfl, hb, hg, _⟩ := h
  intro g' hg'
  simp [Value.ownBlock] at hg'
  subst hg'
  exact ⟨hb, lt_of_block hg⟩
theorem OwnT.form {B : Nat} {e : TypeId} {k : IntKind} {v : Value} {l : List Nat} {w : World} (h : OwnT B e k v l w) : ∃ g cap, v = .slice (some ⟨g, 0, none⟩) l.length cap := by
  obtain ⟨g, cap, cur, fz, rfl, _⟩ := h
  exact ⟨_, _, rfl⟩
theorem OwnT.kept {B : Nat} {e : TypeId} {k : IntKind} {v : Value} {l : List Nat} {w w' : World} (h : OwnT B e k v l w) (hk : ∀ g, v.ownBlock = some g → w'.heap[g]? = w.heap[g]?) : OwnT B e k v l w' := by
  obtain ⟨g, cap, cur, fz, rfl, hb, hg, r⟩ := h
  exact ⟨g, cap, cur, fz, rfl, hb, (hk g rfl).trans hg, r⟩
theorem OwnT.below {B : Nat} {e : TypeId} {k : IntKind} {v : Value} {l : List Nat} {w w' : World} (h : OwnT B e k v l w) (b : Below w.heap.size w w') : OwnT B e k v l w' :=
  h.kept fun g hg => b.block g (h.lt g hg).2
theorem OwnT.alloc {B : Nat} {e : TypeId} {k : IntKind} {v : Value} {l : List Nat} {w : World} (h : OwnT B e k v l w) (o : Obj) : OwnT B e k v l (w.alloc o) :=
  h.kept fun g hg => World.grownBy.block (World.grownBy_alloc w o none) g (h.lt g hg).2 (by simp)
theorem OwnT.cells {B : Nat} {e : TypeId} {k : IntKind} {v : Value} {l : List Nat} {w : World} (h : OwnT B e k v l w) {g : Nat} (hv : v.ownBlock = some g) : ∀ j (hj : j < l.length), w.cell? ⟨g, j, none⟩ = some (.int k (l[j] : Int)) := by
  obtain ⟨g', cap, cur, fz, rfl, hb, hg, hfz, hlc, hcm, hcs, htk⟩ := h
  simp [Value.ownBlock] at hv
  subst hv
  intro j hj
  rw [Lib.cell_of_heap hg j]
  have e := congrArg (fun x => x[j]?) htk
  simp only [List.getElem?_take] at e
  rw [if_pos hj] at e
  rw [← Array.getElem?_toList, e, nums]
  simp [List.getElem?_eq_getElem hj]
theorem OwnT.at {B : Nat} {e : TypeId} {k : IntKind} {ao : Option Addr} {c : Nat} {l : List Nat} {w : World} (h : OwnT B e k (.slice ao l.length c) l w) : NumsAt ao k l w := by
  obtain ⟨g, cap, hv⟩ := h.form
  simp only [Value.slice.injEq] at hv
  obtain ⟨rfl, _, rfl⟩ := hv
  exact Or.inr ⟨g, 0, rfl, (h.lt g rfl).2, fun j hj => by rw [Nat.zero_add]; exact h.cells rfl j hj⟩

theorem OwnT.mono {B B' : Nat} {e : TypeId} {k : IntKind} {v : Value} {l : List Nat} {w : World} (h : OwnT B e k v l w) (hB : B' ≤ B) : OwnT B' e k v l w := by
  obtain ⟨g, cap, cur, fz, hv, hb, r⟩ := h
  exact ⟨g, cap, cur, fz, hv, by omega, r⟩

/-- Bytes as numbers. -/
def byteNs (s : List UInt8) : List Nat := s.map (fun b => b.toNat)
theorem byteNs_len (s : List UInt8) : (byteNs s).length = s.length := by simp [byteNs]

theorem ownT_bytes (w : World) (e : TypeId) (s : List UInt8) (hm : s.length ≤ maxLen) :
    OwnT w.heap.size e .u8 (.slice (some ⟨w.heap.size, 0, none⟩) s.length (grownCap w s.length 0 e)) (byteNs s)
      (w.drew.alloc (.cells (bytesRow ⟨s.toArray⟩ (grownCap w s.length 0 e)) e ((bytesRow ⟨s.toArray⟩ (grownCap w s.length 0 e)).size, (bytesRow ⟨s.toArray⟩ (grownCap w s.length 0 e)).size + 1))) := by
  have hge := grownCap_ge w s.length 0 e
  have hcm := grownCap_le_maxLen w s.length 0 e hm
  have hsz : (bytesRow ⟨s.toArray⟩ (grownCap w s.length 0 e)).size = grownCap w s.length 0 e := by
    have : (⟨s.toArray⟩ : ByteArray).size = s.length := by simp [ByteArray.size]
    simp [bytesRow, this]
    omega
  refine ⟨w.heap.size, grownCap w s.length 0 e, _, _, by rw [byteNs_len], Nat.le_refl _, heap_alloc_new w.drew _, Or.inr (by rw [hsz]; exact Nat.le_refl _), by rw [byteNs_len]; exact hge, hcm, hsz, ?_⟩
  rw [byteNs_len]
  simp [bytesRow, nums, byteNs]

section
variable {P : Program}

theorem run_append_tail (w : World) (base : Nat) (t ty e : TypeId) (i : TypeInfo) (z : Value) (bytes : Nat) (k : IntKind) (ht : P.underlying t = some (.slice e)) (hi : P.info? e = some i) (hz : i.zero = some z)
    (hsize : i.size = 1) (hby : i.bytes = bytes) (hzs : z.cells.size = 1) (v : Value) (l : List Nat) (hown : OwnT base e k v l w)
    (a : Addr) (c x : Nat) (hnews : ∀ j u, [Value.int k (x : Int)][j]? = some u → w.cell? (a.add j) = some u) (h63 : l.length + 1 ≤ maxLen) (hbytes : (l.length + 1) * bytes ≤ 140737488355328) (hbase : base ≤ w.heap.size) :
    ∃ v' w', (Builtin.append_ #[t, t] ty #[v, .slice (some a) 1 c]).run P w = .ok v' w' ∧ OwnT base e k v' (l ++ [x]) w' ∧ w.grownBy w' v.ownBlock ∧ (v'.ownBlock = v.ownBlock ∨ v'.ownBlock = some w.heap.size) := by
  have hcells : ∀ g, v.ownBlock = some g → ∀ j (hj : j < l.length), w.cell? ⟨g, j, none⟩ = some (.int k (l[j] : Int)) := fun g hg => hown.cells hg
  obtain ⟨g, cap, cur, fz, rfl, hb, hg, hfz, hlc, hcm, hcs, htk⟩ := hown
  have hsmall : l.length + 1 ≤ 9223372036854775807 := by simp only [maxLen] at h63; omega
  by_cases hroom : l.length + 1 ≤ cap
  · have hf := run_firstCells_some (P := P) w i.size 1 a 1 c [.int k x] (by simp [hsize]) hnews
    rw [hsize] at hf
    have hfr : w.frozen? ⟨g, l.length, none⟩ = false := by
      obtain ⟨lo, hi'⟩ := fz
      simp only [World.frozen?, hg, Bool.and_eq_false_iff, decide_eq_false_iff_not]
      simp only at hfz
      rcases hfz with h | h
      · right; omega
      · left; omega
    have hc : w.cell? ⟨g, l.length, none⟩ = some (cur[l.length]'(by omega)) := by
      rw [Lib.cell_of_heap hg l.length]
      simp
    have hst : (store ⟨g, l.length, none⟩ (.int k x)).run P w = .ok () (w.setCell ⟨g, l.length, none⟩ (.int k x)) := by
      rw [run_store P w _ _ _ rfl, hc]
      simp [hfr]
    refine ⟨.slice (some ⟨g, 0, none⟩) (l.length + 1) cap, w.setCell ⟨g, l.length, none⟩ (.int k x), ?_, ⟨g, cap, _, fz, by simp, hb, heap_setCell_at hg, hfz, by simpa using hroom, hcm, by simpa using hcs, ?_⟩, ?_, Or.inl rfl⟩
    · simp [Builtin.append_, run_underlying ht, sizeOf, typeInfo, hi, hsize, Builtin.lenOf, hroom, hf, Addr.add_lit, storeCells, hst]
    · rw [Array.toList_setIfInBounds, nums_snoc, ← htk, List.length_append, List.length_singleton]
      have hl : l.length < (cur.toList.set l.length (.int k x)).length := by simp; omega
      rw [List.take_succ_eq_append_getElem hl, List.take_set_of_le (Nat.le_refl _)]
      simp
    · exact ⟨rfl, rfl, rfl, by simp [World.setCell], fun j _ hj => heap_setCell_other w ⟨g, l.length, none⟩ j _ (fun e => hj (by simp [Value.ownBlock, e]))⟩
  · have hr := run_append_grow (P := P) w t ty e i z ht hi hz ⟨g, 0, none⟩ l.length cap (nums k l) (by rw [nums_len, hsize, Nat.mul_one]) (fun j u hj => by
        have hj' : j < l.length := by
          have := (List.getElem?_eq_some_iff.1 hj).1
          rwa [nums_len] at this
        rw [Addr.add_lit, Nat.zero_add, hcells g rfl j hj', ← hj]
        simp [nums, List.getElem?_eq_getElem hj']) a 1 c [.int k x] (by simp [hsize]) hnews (by omega) (by omega) (growslice_fits (by omega) (by rw [hby]; exact hbytes))
    have hge := grownCap_ge w (l.length + 1) cap e
    have hcm2 := grownCap_le_maxLen w (l.length + 1) cap e h63
    refine ⟨_, _, hr, ⟨w.heap.size, _, _, (0, 0), by simp, hbase, heap_alloc_new w.drew _, Or.inl rfl, by simpa using hge, hcm2, ?_, ?_⟩, ⟨rfl, rfl, rfl, by simp, fun j hj _ => World.grownBy.block (World.grownBy_alloc w.drew _ none) j hj (by simp)⟩, Or.inr rfl⟩
    · simp only [Array.size_append, List.size_toArray, size_zeroCells, hzs, nums_len, List.length_singleton]
      omega
    · simp only [Array.toList_append, List.append_assoc, nums_snoc]
      rw [← List.append_assoc, List.take_append_of_le_length (by simp [nums_len]), List.take_of_length_le (by simp [nums_len])]

theorem wpList_append_tail {w : World} {ops : Array Oper} {rest : List Oper} {o : Oper} {a : Act} {Q : Exit → Act → World → Prop} (hgd : o.guard = none) (s x : Operand) (t : TypeId)
    (ho : o.op = .call { callee := .builtin .append, args := #[s, x], argTypes := #[t, t] })
    (base : Nat) (e : TypeId) (i : TypeInfo) (z : Value) (bytes : Nat) (k : IntKind) (ht : P.underlying t = some (.slice e)) (hi : P.info? e = some i) (hz : i.zero = some z)
    (hsize : i.size = 1) (hby : i.bytes = bytes) (hzs : z.cells.size = 1)
    (v : Value) (l : List Nat) (hs : a.eval s = v) (hown : OwnT base e k v l w)
    (ad : Addr) (c y : Nat) (hx : a.eval x = .slice (some ad) 1 c) (hnews : ∀ j u, [Value.int k (y : Int)][j]? = some u → w.cell? (ad.add j) = some u)
    (h63 : l.length + 1 ≤ maxLen) (hbytes : (l.length + 1) * bytes ≤ 140737488355328) (hbase : base ≤ w.heap.size)
    (h : ∀ v' w', OwnT base e k v' (l ++ [y]) w' → w.grownBy w' v.ownBlock → (v'.ownBlock = v.ownBlock ∨ v'.ownBlock = some w.heap.size) → wpList P ops Q rest (a.put o.dst v') w') :
    wpList P ops Q (o :: rest) a w := by
  refine wpList_plain hgd fun K hK => ?_
  obtain ⟨v', w', hr, h2, h3, h4⟩ := run_append_tail (P := P) w base t o.type e i z bytes k ht hi hz hsize hby hzs v l hown ad c y hnews h63 hbytes hbase
  unfold Oper.wp execOp
  simp only [ho, resolve, invoke, builtin, Sem.run_bind, Sem.run_pure, Result.andThen_ok, List.map_toArray, List.map_cons, List.map_nil, hs, hx, hr]
  exact hK _ _ (h v' w' h2 h3 h4)
end

end Go.Proofs.YtjgjgmjdoihmiaaDoor
