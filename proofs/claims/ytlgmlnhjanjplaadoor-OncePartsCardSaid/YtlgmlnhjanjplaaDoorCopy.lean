/-
  'copy(array[:], s)': so many of a string's bytes as fit.
-/
import Derived.Test.YtlgmlnhjanjplaaDoorBlk
import Derived.Lib.BufferWrite
namespace Go.Proofs.YtlgmlnhjanjplaaDoor
open Go.RowKit

theorem byteCells_nums (l : List UInt8) : Lib.byteCells l = nums .u8 (byteNs l) := by simp [Lib.byteCells, nums, byteNs]

theorem run_copy_bytes {P : Program} (w : World) (dT sT ty elem : TypeId) (g cap : Nat) (s : List UInt8) (l : List Nat) (t : TypeId)
    (hu : P.underlying dT = some (.slice elem)) (hs : (P.info? elem).map (·.size) = some 1) (hg : Blk g t .u8 l w) :
    (Builtin.copy_ #[dT, sT] ty #[.slice (some ⟨g, 0, none⟩) l.length cap, .string ⟨s.toArray⟩]).run P w =
      .ok (goInt (min s.length l.length)) (w.setRow g (nums .u8 (byteNs (s.take l.length) ++ l.drop s.length)).toArray) := by
  have hlen : (Lib.byteCells (s.take l.length)).length = min s.length l.length := by rw [Lib.byteCells_length, List.length_take, Nat.min_comm]
  have hst := run_storeCells_at P g 0 t (Lib.byteCells (s.take l.length)) 0 (nums .u8 l).toArray w hg (by rw [hlen, nums_size]; omega) (Lib.byteCells_one _)
  have htk : List.take (min s.length l.length) (List.map (fun b : UInt8 => Value.int IntKind.u8 (b.toNat : Int)) s) = Lib.byteCells (s.take l.length) := by
    rw [← List.map_take, Lib.byteCells]
    congr 1
    rcases Nat.le_total s.length l.length with h | h
    · rw [Nat.min_eq_left h, List.take_of_length_le (Nat.le_refl _), List.take_of_length_le h]
    · rw [Nat.min_eq_right h]
  have hsz : (⟨s.toArray⟩ : ByteArray).size = s.length := by simp [ByteArray.size]
  have hend : (nums .u8 (byteNs (s.take l.length) ++ l.drop s.length)) = Lib.byteCells (s.take l.length) ++ (nums .u8 l).drop (min s.length l.length) := by
    rw [byteCells_nums, nums, List.map_append]
    congr 1
    rcases Nat.le_total s.length l.length with h | h
    · rw [Nat.min_eq_left h, nums, List.map_drop]
    · rw [Nat.min_eq_right h, List.drop_of_length_le h, List.drop_of_length_le (by rw [nums_len]; exact Nat.le_refl _)]
      rfl
  rw [hlen] at hst
  rw [hend]
  simp only [Nat.add_zero] at hst
  cases hq : P.info? elem with
  | none => simp [hq] at hs
  | some i =>
    have hmin : s.length.min l.length = min s.length l.length := rfl
    simp [Builtin.copy_, run_underlying hu, Builtin.lenOf, Builtin.firstCells, sizeOf, typeInfo, hq, hsz, hmin]
    rw [htk, hst]
    simp [Result.andThen]
    congr 1
    omega

theorem wpList_copy_bytes {P : Program} {w : World} {ops : Array Oper} {rest : List Oper} {o : Oper} {a : Act} {Q : Exit → Act → World → Prop} (hgd : o.guard = none) (d x : Operand) (dT sT : TypeId)
    (ho : o.op = .call { callee := .builtin .copy, args := #[d, x], argTypes := #[dT, sT] }) (elem : TypeId) (hu : P.underlying dT = some (.slice elem)) (hs : (P.info? elem).map (·.size) = some 1)
    (g cap n : Nat) (s : List UInt8) (l : List Nat) (t : TypeId) (hn : n = l.length) (hd : a.eval d = .slice (some ⟨g, 0, none⟩) n cap) (hx : a.eval x = .string ⟨s.toArray⟩) (hg : Blk g t .u8 l w)
    (h : ∀ w', Hid (Blk g t .u8 (byteNs (s.take l.length) ++ l.drop s.length) w') → Hid (But g w w') → wpList P ops Q rest (a.put o.dst (goInt (min s.length l.length))) w') :
    wpList P ops Q (o :: rest) a w := by
  subst hn
  refine wpList_plain hgd fun K hK => ?_
  have hrun := run_copy_bytes (P := P) w dT sT o.type elem g cap s l t hu hs hg
  unfold Oper.wp
  simp [execOp, ho, resolve, invoke, builtin, hd, hx, hrun, Result.andThen]
  exact hK _ _ (h _ hg.row ((But.refl g w).setRow _))

/-- A whole array of numbers is stored over another. -/
theorem wpList_store_nums {P : Program} {w : World} {ops : Array Oper} {rest : List Oper} {o : Oper} {a : Act} {Q : Exit → Act → World → Prop} (hgd : o.guard = none) (ty : TypeId) (x y : Operand) (ho : o.op = .store ty x y)
    (hd : o.dst = none) (g : Nat) (k : IntKind) (l l' : List Nat) (t : TypeId) (hx : a.eval x = .pointer (some ⟨g, 0, none⟩)) (hy : a.eval y = .agg (nums k l').toArray)
    (hg : Blk g t k l w) (hi : (P.info? ty).map (·.size) = some l'.length) (hl : l.length = l'.length)
    (h : ∀ w', Hid (Blk g t k l' w') → Hid (But g w w') → wpList P ops Q rest a w') : wpList P ops Q (o :: rest) a w :=
  wpList_store_rowTo hgd ty x y ho hd g (nums k l').toArray hx hy t _ hg (by rw [nums_size]; exact hi) (by rw [nums_size, nums_size]; exact hl) (nums_all _ _) (h _ hg.row ((But.refl g w).setRow _))

/-- A whole array of numbers is read. -/
theorem wpList_load_nums {P : Program} {w : World} {ops : Array Oper} {rest : List Oper} {o : Oper} {a : Act} {Q : Exit → Act → World → Prop} (hgd : o.guard = none) (ty : TypeId) (x : Operand) (ho : o.op = .load ty x)
    (g : Nat) (k : IntKind) (l : List Nat) (t : TypeId) (d : TypeDesc) (hx : a.eval x = .pointer (some ⟨g, 0, none⟩)) (hg : Blk g t k l w)
    (hu : P.underlying ty = some d) (hd : (match d with | .struct _ | .array _ _ => true | _ => false) = true) (hi : (P.info? ty).map (·.size) = some l.length)
    (h : wpList P ops Q rest (a.put o.dst (.agg (nums k l).toArray)) w) : wpList P ops Q (o :: rest) a w :=
  wpList_load_row hgd ty x ho g hx t _ _ d hg hu hd (by rw [nums_size]; exact hi) h

/-- A result that lies in a block of numbers. -/
theorem results_nums {P : Program} {fn : Func} {p : Tmp} {ty : TypeId} (h : fn.results = #[.cell p ty]) (tmps : Array Value) (w : World) (g : Nat) (k : IntKind) (l : List Nat) (t : TypeId) (d : TypeDesc)
    (hp : tmps.getD p undef = .pointer (some ⟨g, 0, none⟩)) (hg : Blk g t k l w)
    (hu : P.underlying ty = some d) (hd : (match d with | .struct _ | .array _ _ => true | _ => false) = true) (hi : (P.info? ty).map (·.size) = some l.length) :
    (results fn tmps).run P w = .ok (.agg (nums k l).toArray) w :=
  results_cell_row h tmps w g t _ (0, 0) d hp hg hu hd (by rw [nums_size]; exact hi)

/-- The first block that ends a text: its bytes, the mark, zeros. -/
def tailL (r : List UInt8) : List Nat := (byteNs (r.take 64) ++ (List.replicate 64 0).drop r.length).set r.length 128
theorem tailL_len {r : List UInt8} (h : r.length < 64) : (tailL r).length = 64 := by
  simp [tailL, byteNs_len]
  omega
theorem tailL_at {r : List UInt8} (h : r.length < 64) (j : Nat) (hj : j < 64) : (tailL r).getD j 0 = if j < r.length then (byteNs r).getD j 0 else if j = r.length then 128 else 0 := by
  unfold tailL
  rw [List.take_of_length_le (by omega), List.getD_eq_getElem?_getD, List.getElem?_set]
  by_cases h1 : r.length = j
  · subst h1
    rw [if_pos rfl, if_pos (by simp [byteNs_len]; omega), if_neg (by omega), if_pos rfl]
    rfl
  · rw [if_neg h1, if_neg (show ¬ j = r.length from fun e => h1 e.symm)]
    by_cases h2 : j < r.length
    · rw [if_pos h2, List.getElem?_append_left (by rw [byteNs_len]; exact h2), List.getD_eq_getElem?_getD]
    · rw [if_neg h2, List.getElem?_append_right (by rw [byteNs_len]; omega), List.getElem?_drop, List.getElem?_replicate]
      split <;> rfl
theorem byteNs_lt (r : List UInt8) : ∀ x ∈ byteNs r, x < 256 := by
  intro x h
  simp only [byteNs, List.mem_map] at h
  obtain ⟨b, _, rfl⟩ := h
  exact b.toNat_lt
theorem tailL_lt (r : List UInt8) : ∀ x ∈ tailL r, x < 256 := by
  intro x hx
  rcases List.mem_or_eq_of_mem_set hx with h | rfl
  · rcases List.mem_append.1 h with h | h
    · exact byteNs_lt _ x h
    · have := List.eq_of_mem_replicate (List.mem_of_mem_drop h)
      omega
  · decide

/-- The length's eight bytes, laid from behind. -/
def fillL (l : List Nat) (N : Nat) : Nat → List Nat
  | 0 => l
  | i + 1 => (fillL l N i).set (63 - i) (N / 2 ^ (8 * i) % 256)
theorem fillL_len (l : List Nat) (N i : Nat) : (fillL l N i).length = l.length := by
  induction i with
  | zero => rfl
  | succ i ih => rw [fillL, List.length_set, ih]
theorem fillL_at (l : List Nat) (N i j : Nat) (hl : l.length = 64) (hj : j < 64) (hi : i ≤ 8) : (fillL l N i).getD j 0 = if 63 - j < i then N / 2 ^ (8 * (63 - j)) % 256 else l.getD j 0 := by
  induction i with
  | zero => rfl
  | succ i ih =>
    rw [fillL, List.getD_eq_getElem?_getD, List.getElem?_set, fillL_len, hl]
    by_cases h : 63 - i = j
    · subst h
      rw [if_pos rfl, if_pos (by omega), if_pos (by omega), show 63 - (63 - i) = i by omega]
      rfl
    · rw [if_neg h, ← List.getD_eq_getElem?_getD, ih (by omega)]
      by_cases h2 : 63 - j < i
      · rw [if_pos h2, if_pos (by omega)]
      · rw [if_neg h2, if_neg (by omega)]
theorem fillL_lt {l : List Nat} (h : ∀ x ∈ l, x < 256) (N i : Nat) : ∀ x ∈ fillL l N i, x < 256 := by
  induction i with
  | zero => exact h
  | succ i ih =>
    intro x hx
    rcases List.mem_or_eq_of_mem_set hx with h | rfl
    · exact ih x h
    · exact Nat.mod_lt _ (by decide)
/-- A block hangs on its 64 bytes alone. -/
theorem wl_congr {b c : Nat → Nat} (h : ∀ j, j < 64 → b j = c j) : ∀ i, wl b i = wl c i := by
  intro i
  induction i with
  | zero => rfl
  | succ i ih =>
    by_cases hi : i < 16
    · rw [wl_word hi, wl_word hi, ih]
      unfold wordN
      rw [h _ (by omega), h _ (by omega), h _ (by omega), h _ (by omega)]
    · rw [wl_next hi, wl_next hi, ih]
theorem block_congr (v : S8) {b c : Nat → Nat} (h : ∀ j, j < 64 → b j = c j) : block v b = block v c := by
  show addS v (rl v (wl b 64) 64) = addS v (rl v (wl c 64) 64)
  rw [wl_congr h 64]
theorem block_ok (v : S8) (b : Nat → Nat) : (block v b).Ok := addS_ok _ _
end Go.Proofs.YtlgmlnhjanjplaaDoor
