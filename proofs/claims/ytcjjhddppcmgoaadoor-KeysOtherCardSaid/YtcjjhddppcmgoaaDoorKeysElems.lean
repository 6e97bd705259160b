/-
  Elements cut from a text: 'copy(list[i][:], s[i*16:])'.
-/
import Derived.Test.YtcjjhddppcmgoaaDoorKeysVer
import Derived.Laws.IdiomCopy
namespace Go.Proofs.YtcjjhddppcmgoaaDoor
open Go.RowKit Go.BigFrame

/-- The elements whose bytes follow one another. -/
def cutE (s : List UInt8) (k : Nat) : List (List Nat) := (List.range k).map fun j => byteNs (part s j)
theorem cutE_len (s : List UInt8) (k : Nat) : (cutE s k).length = k := by simp [cutE]
theorem cutE_next (s : List UInt8) (k : Nat) : cutE s (k + 1) = cutE s k ++ [byteNs (part s k)] := by simp [cutE, List.range_succ]
theorem byteNs_part_len {s : List UInt8} {j : Nat} (h : 16 * j + 16 ≤ s.length) : (byteNs (part s j)).length = 16 := by
  rw [byteNs, List.length_map, part, List.length_take, List.length_drop]
  omega
theorem cutE_ok {s : List UInt8} {k : Nat} (h : 16 * k ≤ s.length) : Elems (cutE s k) := by
  intro x hx
  obtain ⟨j, hj, rfl⟩ := List.mem_map.1 hx
  have := List.mem_range.1 hj
  exact ⟨byteNs_part_len (by omega), byteNs_part_lt _ _⟩
theorem cutE_drop (s : List UInt8) (k : Nat) : cutE (s.drop 560) k = pathK s k := by
  refine List.map_congr_left fun j _ => ?_
  rw [part, part, List.drop_drop]
  congr 3
  omega
/-- The first i of them, the others zero. -/
def partC (s : List UInt8) (k i : Nat) : List (List Nat) := cutE s i ++ List.replicate (k - i) (List.replicate 16 0)
theorem partC_zero (s : List UInt8) (k : Nat) : partC s k 0 = List.replicate k (List.replicate 16 0) := by simp [partC, cutE]
theorem partC_full (s : List UInt8) (k : Nat) : partC s k k = cutE s k := by simp [partC]
theorem partC_len (s : List UInt8) {k i : Nat} (h : i ≤ k) : (partC s k i).length = k := by
  rw [partC, List.length_append, cutE_len, List.length_replicate]; omega
theorem partC_ok {s : List UInt8} {k i : Nat} (h : 16 * i ≤ s.length) : Elems (partC s k i) := (cutE_ok h).append (Elems.zeros _)
theorem partC_set (s : List UInt8) {k i : Nat} (h : i < k) : (partC s k i).set i (byteNs (part s i)) = partC s k (i + 1) := by
  rw [partC, partC, cutE_next, List.set_append_right _ _ (by rw [cutE_len]; exact Nat.le_refl _), cutE_len, Nat.sub_self, show k - i = (k - (i + 1)) + 1 by omega, List.replicate_succ, List.set_cons_zero, List.append_assoc]
  rfl

/-- Bytes of a text that is long enough go over an element of a row. -/
theorem run_copy_elem {P : Program} (w : World) (dT sT ty elem : TypeId) (B g n c i cap : Nat) (e : TypeId) (L : List (List Nat)) (s : List UInt8)
    (hu : P.underlying dT = some (.slice elem)) (hs : (P.info? elem).map (·.size) = some 1) (hn : n = L.length) (hO : OwnE B e (.slice (some ⟨g, 0, none⟩) n c) L w) (hL : Elems L) (hi : i < n) (h16 : 16 ≤ s.length) :
    (Builtin.copy_ #[dT, sT] ty #[.slice (some ⟨g, 16 * i, none⟩) 16 cap, .string ⟨s.toArray⟩]).run P w = .ok (goInt 16) (w.setCells g (16 * i) (nums .u8 (byteNs (s.take 16)))) := by
  have hlen : (Lib.byteCells (s.take 16)).length = 16 := by rw [Lib.byteCells_length, List.length_take]; omega
  have hth := hO.there hn hL hi
  have hst := run_storeCells_cells (P := P) g (16 * i) (Lib.byteCells (s.take 16)) 0 w (by rw [hlen]; intro j hj; exact (hth j hj).1) (by rw [hlen]; intro j hj; exact (hth j hj).2) (Lib.byteCells_one _)
  have htk : List.take 16 (List.map (fun b : UInt8 => Value.int IntKind.u8 (b.toNat : Int)) s) = Lib.byteCells (s.take 16) := by
    rw [← List.map_take, Lib.byteCells]
  have hsz : (⟨s.toArray⟩ : ByteArray).size = s.length := by simp [ByteArray.size]
  rw [byteCells_nums] at hst htk
  cases hq : P.info? elem with
  | none => simp [hq] at hs
  | some i =>
    have hmin : s.length.min 16 = 16 := Nat.min_eq_right h16
    simp [Builtin.copy_, run_underlying hu, Builtin.lenOf, Builtin.firstCells, sizeOf, typeInfo, hq, hsz, hmin]
    rw [htk, hst]
    simp [Result.andThen]
/-- 'copy(list[i][:], text)' as an operation. -/
theorem wpList_copy_elem {P : Program} {w : World} {ops : Array Oper} {rest : List Oper} {o : Oper} {a : Act} {Q : Exit → Act → World → Prop} (hgd : o.guard = none) (d x : Operand) (dT sT : TypeId)
    (ho : o.op = .call { callee := .builtin .copy, args := #[d, x], argTypes := #[dT, sT] }) (elem : TypeId) (hu : P.underlying dT = some (.slice elem)) (hs : (P.info? elem).map (·.size) = some 1)
    (B g n c i off cap : Nat) (e : TypeId) (L : List (List Nat)) (s : List UInt8) (hn : n = L.length) (hoff : off = 16 * i) (hd : a.eval d = .slice (some ⟨g, off, none⟩) 16 cap) (hx : a.eval x = .string ⟨s.toArray⟩)
    (hO : OwnE B e (.slice (some ⟨g, 0, none⟩) n c) L w) (hL : Elems L) (hi : i < n) (h16 : 16 ≤ s.length)
    (h : ∀ w', Hid (OwnE B e (.slice (some ⟨g, 0, none⟩) n c) (L.set i (byteNs (s.take 16))) w') → Hid (But g w w') → wpList P ops Q rest (a.put o.dst (goInt 16)) w') :
    wpList P ops Q (o :: rest) a w := by
  subst hoff
  refine wpList_plain hgd fun K hK => ?_
  have hrun := run_copy_elem (P := P) w dT sT o.type elem B g n c i cap e L s hu hs hn hO hL hi h16
  unfold Oper.wp
  simp [execOp, ho, resolve, invoke, builtin, hd, hx, hrun, Result.andThen]
  refine hK _ _ (h _ (hO.set hn hL hi (by rw [byteNs, List.length_map, List.length_take]; omega) ?_) (But.setCells _ _ _ (But.refl _ _)))
  intro y hy
  obtain ⟨b, _, rfl⟩ := List.mem_map.1 hy
  exact b.toNat_lt

/-! ### Bytes pushed onto what '[]byte(s)' laid -/
theorem OwnT.room {B g n c j : Nat} {e : TypeId} {k : IntKind} {l : List Nat} {w : World} (h : OwnT B e k (.slice (some ⟨g, 0, none⟩) n c) l w) (hj : j < c) : (w.cell? ⟨g, j, none⟩).isSome = true ∧ w.frozen? ⟨g, j, none⟩ = false := by
  obtain ⟨g', cap, cur, fz, hv, hb, hg, hfz, hlc, hcm, hcs, htk⟩ := h
  simp only [Value.slice.injEq, Option.some.injEq, Addr.mk.injEq, and_true] at hv
  obtain ⟨rfl, _, rfl⟩ := hv
  refine ⟨?_, ?_⟩
  · rw [Lib.cell_of_heap hg j, Array.getElem?_eq_getElem (by omega)]
    rfl
  · obtain ⟨lo, hi⟩ := fz
    simp only [World.frozen?, hg, Bool.and_eq_false_iff, decide_eq_false_iff_not]
    simp only at hfz
    rcases hfz with h | h
    · right; omega
    · left; omega
theorem OwnT.push {B g c : Nat} {e : TypeId} {k : IntKind} {l : List Nat} {w : World} (h : OwnT B e k (.slice (some ⟨g, 0, none⟩) l.length c) l w) (hr : l.length + 1 ≤ c) (x : Nat) :
    OwnT B e k (.slice (some ⟨g, 0, none⟩) (l ++ [x]).length c) (l ++ [x]) (w.setCell ⟨g, l.length, none⟩ (.int k (x : Int))) := by
  obtain ⟨g', cap, cur, fz, hv, hb, hg, hfz, hlc, hcm, hcs, htk⟩ := h
  simp only [Value.slice.injEq, Option.some.injEq, Addr.mk.injEq, and_true, true_and] at hv
  obtain ⟨rfl, rfl⟩ := hv
  refine ⟨g, c, _, fz, rfl, hb, heap_setCell_at hg, hfz, by simpa using hr, hcm, by simpa using hcs, ?_⟩
  rw [Array.toList_setIfInBounds, nums_snoc, ← htk, List.length_append, List.length_singleton]
  have hl : l.length < (cur.toList.set l.length (.int k x)).length := by simp; omega
  rw [List.take_succ_eq_append_getElem hl, List.take_set_of_le (Nat.le_refl _)]
  simp
theorem OwnT.pushes {B g c : Nat} {e : TypeId} {k : IntKind} : ∀ (m l : List Nat) (w : World), OwnT B e k (.slice (some ⟨g, 0, none⟩) l.length c) l w → l.length + m.length ≤ c →
    OwnT B e k (.slice (some ⟨g, 0, none⟩) (l ++ m).length c) (l ++ m) (w.setCells g l.length (nums k m))
  | [], l, w, h, _ => by rw [List.append_nil]; exact h
  | x :: m, l, w, h, hr => by
    simp only [List.length_cons] at hr
    have h2 := OwnT.pushes m (l ++ [x]) _ (h.push (by omega) x) (by simp; omega)
    rw [List.append_assoc, List.singleton_append, show (l ++ [x]).length = l.length + 1 by simp] at h2
    exact h2
theorem run_append_tails {P : Program} (w : World) (base : Nat) (t ty e : TypeId) (i : TypeInfo) (z : Value) (bytes : Nat) (k : IntKind) (ht : P.underlying t = some (.slice e)) (hi : P.info? e = some i) (hz : i.zero = some z)
    (hsize : i.size = 1) (hby : i.bytes = bytes) (hzs : z.cells.size = 1) (v : Value) (l m : List Nat) (hown : OwnT base e k v l w)
    (a : Addr) (c : Nat) (hnews : ∀ j u, (nums k m)[j]? = some u → w.cell? (a.add j) = some u) (h63 : l.length + m.length ≤ maxLen) (hbytes : (l.length + m.length) * bytes ≤ 140737488355328) (hbase : base ≤ w.heap.size) :
    ∃ v' w', (Builtin.append_ #[t, t] ty #[v, .slice (some a) m.length c]).run P w = .ok v' w' ∧ OwnT base e k v' (l ++ m) w' ∧ Below base w w' := by
  have hcells : ∀ g, v.ownBlock = some g → ∀ j (hj : j < l.length), w.cell? ⟨g, j, none⟩ = some (.int k (l[j] : Int)) := fun g hg => hown.cells hg
  obtain ⟨g, cap, rfl⟩ := hown.form
  have hb := (hown.lt g rfl).1
  have hsmall : l.length + m.length ≤ 9223372036854775807 := by simp only [maxLen] at h63; omega
  have hnl : (nums k m).length = m.length * i.size := by rw [nums_len, hsize, Nat.mul_one]
  by_cases hroom : l.length + m.length ≤ cap
  · have hf := run_firstCells_some (P := P) w i.size m.length a m.length c (nums k m) hnl hnews
    rw [hsize] at hf
    have hst := run_storeCells_cells (P := P) g l.length (nums k m) 0 w (by rw [nums_len]; intro j hj; exact (hown.room (by omega)).1) (by rw [nums_len]; intro j hj; exact (hown.room (by omega)).2) (nums_one k m)
    rw [Nat.add_zero] at hst
    have ho := OwnT.pushes m l w hown hroom
    rw [List.length_append] at ho
    refine ⟨.slice (some ⟨g, 0, none⟩) (l.length + m.length) cap, w.setCells g l.length (nums k m), ?_, ho, But.toBelow (Below.refl base w) (But.setCells _ _ _ (But.refl g w)) hb hbase⟩
    simp [Builtin.append_, run_underlying ht, sizeOf, typeInfo, hi, hsize, Builtin.lenOf, hroom, hf, Addr.add_lit, hst]
  · have hr := run_append_grow (P := P) w t ty e i z ht hi hz ⟨g, 0, none⟩ l.length cap (nums k l) (by rw [nums_len, hsize, Nat.mul_one]) (fun j u hj => by
        have hj' : j < l.length := by
          have := (List.getElem?_eq_some_iff.1 hj).1
          rwa [nums_len] at this
        rw [Addr.add_lit, Nat.zero_add, hcells g rfl j hj', ← hj]
        simp [nums, List.getElem?_eq_getElem hj']) a m.length c (nums k m) hnl hnews (by omega) (by omega) (growslice_fits (by omega) (by rw [hby]; exact hbytes))
    have hge := grownCap_ge w (l.length + m.length) cap e
    have hcm2 := grownCap_le_maxLen w (l.length + m.length) cap e h63
    refine ⟨_, _, hr, ⟨w.heap.size, _, _, (0, 0), by rw [List.length_append], hbase, heap_alloc_new w.drew _, Or.inl rfl, by rw [List.length_append]; exact hge, hcm2, ?_, ?_⟩, (drawn_below (Below.refl base w) 1).alloc (by show base ≤ w.heap.size; exact hbase) _⟩
    · simp only [Array.size_append, List.size_toArray, size_zeroCells, hzs, nums_len]
      omega
    · rw [show nums k (l ++ m) = nums k l ++ nums k m by simp [nums]]
      simp only [Array.toList_append, List.length_append]
      rw [List.take_append_of_le_length (by simp [nums_len]), List.take_of_length_le (by simp [nums_len])]
/-- .. as an operation. -/
theorem wpList_append_tails {P : Program} {w : World} {ops : Array Oper} {rest : List Oper} {o : Oper} {a : Act} {Q : Exit → Act → World → Prop} (hgd : o.guard = none) (s x : Operand) (t e : TypeId)
    (ho : o.op = .call { callee := .builtin .append, args := #[s, x], argTypes := #[t, t] })
    (B : Nat) (k : IntKind) (bytes : Nat) (ht : P.underlying t = some (.slice e)) (hinfo : (P.info? e).map (fun i => (i.zero, i.size, i.bytes)) = some (some (.int k 0), 1, bytes))
    (v : Value) (l m : List Nat) (ad : Addr) (n c : Nat) (hn : n = m.length) (hs : a.eval s = v) (hown : OwnT B e k v l w) (hx : a.eval x = .slice (some ad) n c) (hnews : ∀ j u, (nums k m)[j]? = some u → w.cell? (ad.add j) = some u)
    (h63 : l.length + m.length ≤ maxLen) (hbytes : (l.length + m.length) * bytes ≤ 140737488355328) (hB : B ≤ w.heap.size)
    (h : ∀ v' w', Hid (OwnT B e k v' (l ++ m) w') → Hid (Below B w w') → wpList P ops Q rest (a.put o.dst v') w') : wpList P ops Q (o :: rest) a w := by
  obtain ⟨i, hi, hz0, hz1, hz2⟩ := info_parts hinfo
  subst hn
  obtain ⟨v', w', hr, h1, h2⟩ := run_append_tails (P := P) w B t o.type e i (.int k 0) bytes k ht hi hz0 hz1 hz2 rfl v l m hown ad c hnews h63 hbytes hB
  refine wpList_plain hgd fun K hK => ?_
  unfold Oper.wp
  simp [execOp, ho, resolve, invoke, builtin, hs, hx, hr, Result.andThen]
  exact hK _ _ (h _ _ h1 h2)
end Go.Proofs.YtcjjhddppcmgoaaDoor
