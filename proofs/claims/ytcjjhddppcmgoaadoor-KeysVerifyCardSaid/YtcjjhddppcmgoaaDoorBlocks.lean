/-
  Blocks of numbers; copying into them.
-/
import Derived.Test.YtcjjhddppcmgoaaDoorOfA
import Derived.Great.BuildSlice
import Derived.Laws.Rows
import Derived.Laws.CopyOwn
import Derived.Lib.BufferWrite
/-! The developers' right (by the library's RotateLeft32): x turned to the right. -/
namespace Go.Proofs.YtcjjhddppcmgoaaDoor
open Go.RowKit

theorem left_or (x k : Nat) (hx : x < 4294967296) : bits BinOp.or IntKind.u32 ((x : Int) * 2 ^ (32 - k) % 4294967296) ((x : Int) / 2 ^ k) = ((rotr x k : Nat) : Int) := by
  have h1 : x / 2 ^ k < 4294967296 := Nat.lt_of_le_of_lt (Nat.div_le_self _ _) hx
  have h2 : x * 2 ^ (32 - k) % 4294967296 < 4294967296 := Nat.mod_lt _ (by decide)
  have := u32_or_nat (x * 2 ^ (32 - k) % 4294967296) (x / 2 ^ k) h2 h1
  unfold rotr
  rw [Nat.or_comm, ← this]
  simp

theorem back_31 : ∀ k : Fin 32, 1 ≤ k.val → bits BinOp.and IntKind.u64 (18446744073709551616 - (k.val : Int)) 31 = ((32 - k.val : Nat) : Int) := by decide +kernel

theorem rotl_any (x k : Nat) (w : World) (hx : x < 4294967296) (hk1 : 1 ≤ k) (hk : k ≤ 31) :
    Calls Tryd.prog 86 #[.int .u32 x, .int .i64 (-(k : Int))] w fun e w' => e = .returned (.int .u32 (rotr x k)) ∧ w = w' := by
  have h := left_or x k hx
  have hb := back_31 ⟨k, by omega⟩ hk1
  have hw : IntKind.u64.wrap (-(k : Int)) = 18446744073709551616 - (k : Int) := by rw [IntKind.wrap_u64]; omega
  simp only at hb
  obtain ⟨j, hj⟩ : ∃ j, j = 32 - k := ⟨_, rfl⟩
  rw [← hj] at hb h
  have hj2 : (32 : Int) - (j : Int) = (k : Int) := by omega
  have b1 : (j : Int) ≤ 31 := by omega
  have b2 : 1 ≤ (j : Int) := by omega
  clear hj
  go_enter Tryd.func86, Tryd.ntmps86
  go_wp2_with fail
  go_ret
  exact ⟨rfl, rfl⟩

theorem right_any (x k : Nat) (w : World) (hx : x < 4294967296) (hk1 : 1 ≤ k) (hk : k ≤ 31) :
    Calls Tryd.prog 84 #[.int .u32 x, .int .i64 k] w fun e w' => e = .returned (.int .u32 (rotr x k)) ∧ w = w' := by
  go_enter Tryd.func84, Tryd.ntmps84
  go_wp2_with fail
  refine (rotl_any x k _ hx hk1 hk).mono ?_
  rintro e w1 ⟨rfl, rfl⟩
  go_wp2_with fail
  go_ret
  exact ⟨rfl, rfl⟩
theorem right_still (x k : Nat) (w : World) (hx : x < 4294967296) (hk1 : 1 ≤ k) (hk : k ≤ 31) :
    Calls Tryd.prog 84 #[.int .u32 x, .int .i64 k] w fun e w' => e = .returned (.int .u32 (rotr x k)) ∧ w' = w :=
  (right_any x k w hx hk1 hk).mono fun _ _ h => ⟨h.1, h.2.symm⟩
/-- At a number written out. -/
theorem right_lit (x : Nat) (i : Int) (k : Nat) (w : World) (hx : x < 4294967296) (e : i = (k : Int)) (hk1 : 1 ≤ k) (hk : k ≤ 31) :
    Calls Tryd.prog 84 #[.int .u32 x, .int .i64 i] w fun e w' => e = .returned (.int .u32 (rotr x k)) ∧ w' = w := by
  subst e
  exact right_still x k w hx hk1 hk
theorem right_int (x : Nat) (i : Int) (w : World) (hx : x < 4294967296) (h1 : 1 ≤ i) (h2 : i ≤ 31) :
    Calls Tryd.prog 84 #[.int .u32 x, .int .i64 i] w fun e w' => e = .returned (.int .u32 (rotr x i.toNat)) ∧ w' = w := by
  have h := right_still x i.toNat w hx (by omega) (by omega)
  rwa [show ((i.toNat : Nat) : Int) = i by omega] at h
end Go.Proofs.YtcjjhddppcmgoaaDoor

/-! A block of memory that holds numbers (an array of its own): read, written, kept. -/
namespace Go.Proofs.YtcjjhddppcmgoaaDoor
open Go.RowKit

def Blk (b : Nat) (t : TypeId) (k : IntKind) (l : List Nat) (w : World) : Prop := w.heap[b]? = some (.cells (nums k l).toArray t (0, 0))

theorem Blk.lt {b : Nat} {t : TypeId} {k : IntKind} {l : List Nat} {w : World} (h : Blk b t k l w) : b < w.heap.size := lt_of_block h
theorem Blk.cell {b : Nat} {t : TypeId} {k : IntKind} {l : List Nat} {w : World} (h : Blk b t k l w) (j : Nat) (hj : j < l.length) : w.cell? ⟨b, j, none⟩ = some (.int k ((l.getD j 0 : Nat) : Int)) := by
  rw [Lib.cell_of_heap h j, List.getElem?_toArray, nums, List.getElem?_map, List.getElem?_eq_getElem hj, List.getD_eq_getElem?_getD, List.getElem?_eq_getElem hj]
  rfl
theorem Blk.frozen {b : Nat} {t : TypeId} {k : IntKind} {l : List Nat} {w : World} (h : Blk b t k l w) (j : Nat) : w.frozen? ⟨b, j, none⟩ = false := frozen_of_row w b j _ t h
theorem Blk.set {b : Nat} {t : TypeId} {k : IntKind} {l : List Nat} {w : World} (h : Blk b t k l w) (j x : Nat) : Blk b t k (l.set j x) (w.setCell ⟨b, j, none⟩ (.int k (x : Int))) := by
  have e := heap_setCell_at (o := j) (v := .int k (x : Int)) h
  rw [List.setIfInBounds_toArray, nums_set] at e
  exact e
theorem Blk.below {b : Nat} {t : TypeId} {k : IntKind} {l : List Nat} {w w' : World} (h : Blk b t k l w) (hb : Below w.heap.size w w') : Blk b t k l w' := (hb.block b h.lt).trans h
theorem Blk.but {b g : Nat} {t : TypeId} {k : IntKind} {l : List Nat} {w w' : World} (h : Blk b t k l w) (hb : But g w w') (hne : b ≠ g) : Blk b t k l w' := (hb.block b h.lt hne).trans h
theorem Blk.alloc {b : Nat} {t : TypeId} {k : IntKind} {l : List Nat} {w : World} (h : Blk b t k l w) (o : Obj) : Blk b t k l (w.alloc o) := (heap_alloc_old w o h.lt).trans h
theorem Blk.drawn {b : Nat} {t : TypeId} {k : IntKind} {l : List Nat} {w : World} (h : Blk b t k l w) (n : Nat) : Blk b t k l (w.drewN n) := h
theorem Blk.row {b : Nat} {t : TypeId} {k : IntKind} {l l' : List Nat} {w : World} (h : Blk b t k l w) : Blk b t k l' (w.setRow b (nums k l').toArray) := setRow_heap _ _ _ _ _ _ h
theorem Blk.rowNe {b g : Nat} {t : TypeId} {k : IntKind} {l : List Nat} {w : World} (h : Blk b t k l w) (cs : Array Value) (hne : b ≠ g) : Blk b t k l (w.setRow g cs) := (setRow_other w g b cs hne).trans h
theorem But.setRow {b : Nat} {w w' : World} (h : But b w w') (cs : Array Value) : But b w (w'.setRow b cs) :=
  h.trans ⟨rfl, rfl, rfl, by simp, fun k _ hb => setRow_other w' b k cs hb⟩
theorem But.new {b g : Nat} {w w1 w2 : World} (h : But b w w1) (k : But g w1 w2) (hg : w.heap.size ≤ g) : But b w w2 :=
  ⟨k.os.trans h.os, k.tape.trans h.tape, k.output.trans h.output, Nat.le_trans h.size k.size, fun i hi hb => (k.block i (Nat.lt_of_lt_of_le hi h.size) (by omega)).trans (h.block i hi hb)⟩
theorem But.alloc {b : Nat} {w w' : World} (h : But b w w') (o : Obj) : But b w (w'.alloc o) := h.below ((Below.refl _ _).alloc (Nat.le_refl _) _)

theorem shaN_len (s : List UInt8) : (shaN s).length = 32 := by simp [shaN, outN]
theorem nums_size (k : IntKind) (l : List Nat) : (nums k l).toArray.size = l.length := by simp [nums]
theorem nums_all (k : IntKind) (l : List Nat) : (nums k l).toArray.all (·.oneCell') = true := by
  rw [Array.all_eq_true_iff_forall_mem]
  intro x hx
  exact nums_one k l x (by simpa using hx)
theorem Tryd.infoId : (Tryd.prog.info? 61).map (fun i => i.size) = some 32 := by kernel_rfl
theorem Tryd.infoW : (Tryd.prog.info? 118).map (fun i => i.size) = some 64 := by kernel_rfl
theorem Tryd.infoB : (Tryd.prog.info? 97).map (fun i => i.size) = some 64 := by kernel_rfl
theorem Tryd.infoS : (Tryd.prog.info? 95).map (fun i => i.size) = some 8 := by kernel_rfl

theorem arrW_get (b : Nat → Nat) {j k : Nat} (h : j < k) (_hk : k ≤ 64) : (arrW b k).getD j 0 = (wl b k).getD j 0 := by
  unfold arrW
  rw [List.getD_eq_getElem?_getD, List.getElem?_append_left (by rw [wl_len]; exact h), ← List.getD_eq_getElem?_getD]
theorem run_index_nums {P : Program} (t e : TypeId) (n : Nat) (k : IntKind) (l : List Nat) (j : Nat) (w : World) (h : P.underlying t = some (.array n e)) (hl : l.length = n) (hz : ∀ w, (sizeOf e).run P w = .ok 1 w) (ha : ∀ w, (isAgg e).run P w = .ok false w) (hj : j < n) :
    (Instr.index t (.agg (nums k l).toArray) (.int .i64 (j : Int))).run P w = .ok (.int k ((l.getD j 0 : Nat) : Int)) w := by
  have h2 : (0 : Int) ≤ j ∧ (j : Int) < n := by omega
  have hn : (nums k l)[j]? = some (.int k ((l.getD j 0 : Nat) : Int)) := by
    rw [nums, List.getElem?_map, List.getElem?_eq_getElem (by omega), List.getD_eq_getElem?_getD, List.getElem?_eq_getElem (by omega)]
    rfl
  simp [Instr.index, run_underlying h, asIntOf, hj, go_sem, hz, ha]
  rw [hn]
  simp

/-- The table of the round constants lies as the program's text lays it. -/
def KAt (w : World) : Prop := ∀ j, j < 64 → w.cell? ⟨0, j, none⟩ = some (.int .u32 ((shaK.getD j 0 : Nat) : Int))
theorem KAt.lt {w : World} (h : KAt w) : 0 < w.heap.size := block_lt_of_cell (h 0 (by decide))
theorem KAt.below {w w' : World} (h : KAt w) (hb : Below w.heap.size w w') : KAt w' := fun j hj => (hb.cell (p := ⟨0, j, none⟩) h.lt).trans (h j hj)
theorem KAt.but {g : Nat} {w w' : World} (h : KAt w) (hb : But g w w') (hne : 0 ≠ g) : KAt w' := fun j hj => (World.cell?_of_block (w := w) (a := ⟨0, j, none⟩) (hb.block _ h.lt hne)).trans (h j hj)

/-- A block's bytes. -/
def bAt (l : List Nat) : Nat → Nat := fun j => l.getD j 0
theorem bAt_lt {l : List Nat} (h : ∀ x ∈ l, x < 256) (j : Nat) : bAt l j < 256 := getD_lt h (by decide) j
theorem word_or (a b c d : Nat) (ha : a < 256) (hb : b < 256) (hc : c < 256) (hd : d < 256) :
    bits BinOp.or IntKind.u32 (bits BinOp.or IntKind.u32 (bits BinOp.or IntKind.u32 ((a : Int) * 16777216) ((b : Int) * 65536)) ((c : Int) * 256)) (d : Int) = ((a * 16777216 + b * 65536 + c * 256 + d : Nat) : Int) := by
  have e1 : (a : Int) * 16777216 = ((a * 16777216 : Nat) : Int) := by omega
  have e2 : (b : Int) * 65536 = ((b * 65536 : Nat) : Int) := by omega
  have e3 : (c : Int) * 256 = ((c * 256 : Nat) : Int) := by omega
  have h1 : a * 16777216 ||| b * 65536 = a * 16777216 + b * 65536 := by
    have := Nat.two_pow_add_eq_or_of_lt (i := 24) (show b * 65536 < 2 ^ 24 by omega) a
    rw [Nat.mul_comm] at this
    exact this.symm
  have h2 : (a * 16777216 + b * 65536) ||| c * 256 = a * 16777216 + b * 65536 + c * 256 := by
    have := Nat.two_pow_add_eq_or_of_lt (i := 16) (show c * 256 < 2 ^ 16 by omega) (a * 256 + b)
    rw [show 2 ^ 16 * (a * 256 + b) = a * 16777216 + b * 65536 by omega] at this
    exact this.symm
  have h3 : (a * 16777216 + b * 65536 + c * 256) ||| d = a * 16777216 + b * 65536 + c * 256 + d := by
    have := Nat.two_pow_add_eq_or_of_lt (i := 8) (show d < 2 ^ 8 by omega) (a * 65536 + b * 256 + c)
    rw [show 2 ^ 8 * (a * 65536 + b * 256 + c) = a * 16777216 + b * 65536 + c * 256 by omega] at this
    exact this.symm
  rw [e1, e2, e3, u32_or_nat _ _ (by omega) (by omega), h1, u32_or_nat _ _ (by omega) (by omega), h2, u32_or_nat _ _ (by omega) (by omega), h3]
end Go.Proofs.YtcjjhddppcmgoaaDoor

/-! 'copy(array[:], s)': so many of a string's bytes as fit. -/
namespace Go.Proofs.YtcjjhddppcmgoaaDoor
open Go.RowKit

theorem byteCells_nums (l : List UInt8) : Lib.byteCells l = nums .u8 (byteNs l) := by simp [Lib.byteCells, nums, byteNs]

theorem run_copy_bytes {P : Program} (w : World) (dT sT ty elem : TypeId) (g cap : Nat) (s : List UInt8) (l : List Nat) (t : TypeId)
    (hu : P.underlying dT = some (.slice elem)) (hs : (P.info? elem).map (·.size) = some 1) (hg : Blk g t .u8 l w) :
    (Builtin.copy_ #[dT, sT] ty #[.slice (some ⟨g, 0, none⟩) l.length cap, .string ⟨s.toArray⟩]).run P w =
      .ok (goInt (min s.length l.length)) (w.setRow g (nums .u8 (byteNs (s.take l.length) ++ l.drop s.length)).toArray) := by
  have hlen : (Lib.byteCells (s.take l.length)).length = min s.length l.length := by rw [Lib.byteCells_length, List.length_take, Nat.min_comm]
  have hst := run_storeCells_at P g 0 t (Lib.byteCells (s.take l.length)) 0 (nums .u8 l).toArray w hg (by rw [hlen, nums_size]; omega) (Lib.byteCells_one _)
  have htk : List.take (min s.length l.length) (List.map (fun b : UInt8 => Value.int IntKind.u8 (b.toNat : Int)) s) = Lib.byteCells (s.take l.length) := by
    rw [← List.map_take, Lib.byteCells]
    congr 1
    rcases Nat.le_total s.length l.length with h | h
    · rw [Nat.min_eq_left h, List.take_of_length_le (Nat.le_refl _), List.take_of_length_le h]
    · rw [Nat.min_eq_right h]
  have hsz : (⟨s.toArray⟩ : ByteArray).size = s.length := by simp [ByteArray.size]
  have hend : (nums .u8 (byteNs (s.take l.length) ++ l.drop s.length)) = Lib.byteCells (s.take l.length) ++ (nums .u8 l).drop (min s.length l.length) := by
    rw [byteCells_nums, nums, List.map_append]
    congr 1
    rcases Nat.le_total s.length l.length with h | h
    · rw [Nat.min_eq_left h, nums, List.map_drop]
    · rw [Nat.min_eq_right h, List.drop_of_length_le h, List.drop_of_length_le (by rw [nums_len]; exact Nat.le_refl _)]
      rfl
  rw [hlen] at hst
  rw [hend]
  simp only [Nat.add_zero] at hst
  cases hq : P.info? elem with
  | none => simp [hq] at hs
  | some i =>
    have hmin : s.length.min l.length = min s.length l.length := rfl
    simp [Builtin.copy_, run_underlying hu, Builtin.lenOf, Builtin.firstCells, sizeOf, typeInfo, hq, hsz, hmin]
    rw [htk, hst]
    simp [Result.andThen]
    congr 1
    omega

theorem wpList_copy_bytes {P : Program} {w : World} {ops : Array Oper} {rest : List Oper} {o : Oper} {a : Act} {Q : Exit → Act → World → Prop} (hgd : o.guard = none) (d x : Operand) (dT sT : TypeId)
    (ho : o.op = .call { callee := .builtin .copy, args := #[d, x], argTypes := #[dT, sT] }) (elem : TypeId) (hu : P.underlying dT = some (.slice elem)) (hs : (P.info? elem).map (·.size) = some 1)
    (g cap n : Nat) (s : List UInt8) (l : List Nat) (t : TypeId) (hn : n = l.length) (hd : a.eval d = .slice (some ⟨g, 0, none⟩) n cap) (hx : a.eval x = .string ⟨s.toArray⟩) (hg : Blk g t .u8 l w)
    (h : ∀ w', Hid (Blk g t .u8 (byteNs (s.take l.length) ++ l.drop s.length) w') → Hid (But g w w') → wpList P ops Q rest (a.put o.dst (goInt (min s.length l.length))) w') :
    wpList P ops Q (o :: rest) a w := by
  subst hn
  refine wpList_plain hgd fun K hK => ?_
  have hrun := run_copy_bytes (P := P) w dT sT o.type elem g cap s l t hu hs hg
  unfold Oper.wp
  simp [execOp, ho, resolve, invoke, builtin, hd, hx, hrun, Result.andThen]
  exact hK _ _ (h _ hg.row ((But.refl g w).setRow _))

/-- A whole array of numbers is stored over another. -/
theorem wpList_store_nums {P : Program} {w : World} {ops : Array Oper} {rest : List Oper} {o : Oper} {a : Act} {Q : Exit → Act → World → Prop} (hgd : o.guard = none) (ty : TypeId) (x y : Operand) (ho : o.op = .store ty x y)
    (hd : o.dst = none) (g : Nat) (k : IntKind) (l l' : List Nat) (t : TypeId) (hx : a.eval x = .pointer (some ⟨g, 0, none⟩)) (hy : a.eval y = .agg (nums k l').toArray)
    (hg : Blk g t k l w) (hi : (P.info? ty).map (·.size) = some l'.length) (hl : l.length = l'.length)
    (h : ∀ w', Hid (Blk g t k l' w') → Hid (But g w w') → wpList P ops Q rest a w') : wpList P ops Q (o :: rest) a w :=
  wpList_store_rowTo hgd ty x y ho hd g (nums k l').toArray hx hy t _ hg (by rw [nums_size]; exact hi) (by rw [nums_size, nums_size]; exact hl) (nums_all _ _) (h _ hg.row ((But.refl g w).setRow _))

/-- A whole array of numbers is read. -/
theorem wpList_load_nums {P : Program} {w : World} {ops : Array Oper} {rest : List Oper} {o : Oper} {a : Act} {Q : Exit → Act → World → Prop} (hgd : o.guard = none) (ty : TypeId) (x : Operand) (ho : o.op = .load ty x)
    (g : Nat) (k : IntKind) (l : List Nat) (t : TypeId) (d : TypeDesc) (hx : a.eval x = .pointer (some ⟨g, 0, none⟩)) (hg : Blk g t k l w)
    (hu : P.underlying ty = some d) (hd : (match d with | .struct _ | .array _ _ => true | _ => false) = true) (hi : (P.info? ty).map (·.size) = some l.length)
    (h : wpList P ops Q rest (a.put o.dst (.agg (nums k l).toArray)) w) : wpList P ops Q (o :: rest) a w :=
  wpList_load_row hgd ty x ho g hx t _ _ d hg hu hd (by rw [nums_size]; exact hi) h

/-- A result that lies in a block of numbers. -/
theorem results_nums {P : Program} {fn : Func} {p : Tmp} {ty : TypeId} (h : fn.results = #[.cell p ty]) (tmps : Array Value) (w : World) (g : Nat) (k : IntKind) (l : List Nat) (t : TypeId) (d : TypeDesc)
    (hp : tmps.getD p undef = .pointer (some ⟨g, 0, none⟩)) (hg : Blk g t k l w)
    (hu : P.underlying ty = some d) (hd : (match d with | .struct _ | .array _ _ => true | _ => false) = true) (hi : (P.info? ty).map (·.size) = some l.length) :
    (results fn tmps).run P w = .ok (.agg (nums k l).toArray) w :=
  results_cell_row h tmps w g t _ (0, 0) d hp hg hu hd (by rw [nums_size]; exact hi)

/-- The first block that ends a text: its bytes, the mark, zeros. -/
def tailL (r : List UInt8) : List Nat := (byteNs (r.take 64) ++ (List.replicate 64 0).drop r.length).set r.length 128
theorem tailL_len {r : List UInt8} (h : r.length < 64) : (tailL r).length = 64 := by
  simp [tailL, byteNs_len]
  omega
theorem tailL_at {r : List UInt8} (h : r.length < 64) (j : Nat) (hj : j < 64) : (tailL r).getD j 0 = if j < r.length then (byteNs r).getD j 0 else if j = r.length then 128 else 0 := by
  unfold tailL
  rw [List.take_of_length_le (by omega), List.getD_eq_getElem?_getD, List.getElem?_set]
  by_cases h1 : r.length = j
  · subst h1
    rw [if_pos rfl, if_pos (by simp [byteNs_len]; omega), if_neg (by omega), if_pos rfl]
    rfl
  · rw [if_neg h1, if_neg (show ¬ j = r.length from fun e => h1 e.symm)]
    by_cases h2 : j < r.length
    · rw [if_pos h2, List.getElem?_append_left (by rw [byteNs_len]; exact h2), List.getD_eq_getElem?_getD]
    · rw [if_neg h2, List.getElem?_append_right (by rw [byteNs_len]; omega), List.getElem?_drop, List.getElem?_replicate]
      split <;> rfl
theorem byteNs_lt (r : List UInt8) : ∀ x ∈ byteNs r, x < 256 := by
  intro x h
  simp only [byteNs, List.mem_map] at h
  obtain ⟨b, _, rfl⟩ := h
  exact b.toNat_lt
theorem tailL_lt (r : List UInt8) : ∀ x ∈ tailL r, x < 256 := by
  intro x hx
  rcases List.mem_or_eq_of_mem_set hx with h | rfl
  · rcases List.mem_append.1 h with h | h
    · exact byteNs_lt _ x h
    · have := List.eq_of_mem_replicate (List.mem_of_mem_drop h)
      omega
  · decide

/-- The length's eight bytes, laid from behind. -/
def fillL (l : List Nat) (N : Nat) : Nat → List Nat
  | 0 => l
  | i + 1 => (fillL l N i).set (63 - i) (N / 2 ^ (8 * i) % 256)
theorem fillL_len (l : List Nat) (N i : Nat) : (fillL l N i).length = l.length := by
  induction i with
  | zero => rfl
  | succ i ih => rw [fillL, List.length_set, ih]
theorem fillL_at (l : List Nat) (N i j : Nat) (hl : l.length = 64) (hj : j < 64) (hi : i ≤ 8) : (fillL l N i).getD j 0 = if 63 - j < i then N / 2 ^ (8 * (63 - j)) % 256 else l.getD j 0 := by
  induction i with
  | zero => rfl
  | succ i ih =>
    rw [fillL, List.getD_eq_getElem?_getD, List.getElem?_set, fillL_len, hl]
    by_cases h : 63 - i = j
    · subst h
      rw [if_pos rfl, if_pos (by omega), if_pos (by omega), show 63 - (63 - i) = i by omega]
      rfl
    · rw [if_neg h, ← List.getD_eq_getElem?_getD, ih (by omega)]
      by_cases h2 : 63 - j < i
      · rw [if_pos h2, if_pos (by omega)]
      · rw [if_neg h2, if_neg (by omega)]
theorem fillL_lt {l : List Nat} (h : ∀ x ∈ l, x < 256) (N i : Nat) : ∀ x ∈ fillL l N i, x < 256 := by
  induction i with
  | zero => exact h
  | succ i ih =>
    intro x hx
    rcases List.mem_or_eq_of_mem_set hx with h | rfl
    · exact ih x h
    · exact Nat.mod_lt _ (by decide)
/-- A block hangs on its 64 bytes alone. -/
theorem wl_congr {b c : Nat → Nat} (h : ∀ j, j < 64 → b j = c j) : ∀ i, wl b i = wl c i := by
  intro i
  induction i with
  | zero => rfl
  | succ i ih =>
    by_cases hi : i < 16
    · rw [wl_word hi, wl_word hi, ih]
      unfold wordN
      rw [h _ (by omega), h _ (by omega), h _ (by omega), h _ (by omega)]
    · rw [wl_next hi, wl_next hi, ih]
theorem block_congr (v : S8) {b c : Nat → Nat} (h : ∀ j, j < 64 → b j = c j) : block v b = block v c := by
  show addS v (rl v (wl b 64) 64) = addS v (rl v (wl c 64) 64)
  rw [wl_congr h 64]
theorem block_ok (v : S8) (b : Nat → Nat) : (block v b).Ok := addS_ok _ _
end Go.Proofs.YtcjjhddppcmgoaaDoor
