/-
  A block of memory that holds numbers (an array of its own): read, written, kept.
-/
import Derived.Test.YtlgmlnhjanjplaaDoorRight
import Derived.Great.BuildSlice
import Derived.Laws.Rows
import Derived.Laws.CopyOwn
namespace Go.Proofs.YtlgmlnhjanjplaaDoor
open Go.RowKit

def Blk (b : Nat) (t : TypeId) (k : IntKind) (l : List Nat) (w : World) : Prop := w.heap[b]? = some (.cells (nums k l).toArray t (0, 0))

theorem Blk.lt {b : Nat} {t : TypeId} {k : IntKind} {l : List Nat} {w : World} (h : Blk b t k l w) : b < w.heap.size := lt_of_block h
theorem Blk.cell {b : Nat} {t : TypeId} {k : IntKind} {l : List Nat} {w : World} (h : Blk b t k l w) (j : Nat) (hj : j < l.length) : w.cell? ⟨b, j, none⟩ = some (.int k ((l.getD j 0 : Nat) : Int)) := by
  rw [Lib.cell_of_heap h j, List.getElem?_toArray, nums, List.getElem?_map, List.getElem?_eq_getElem hj, List.getD_eq_getElem?_getD, List.getElem?_eq_getElem hj]
  rfl
theorem Blk.frozen {b : Nat} {t : TypeId} {k : IntKind} {l : List Nat} {w : World} (h : Blk b t k l w) (j : Nat) : w.frozen? ⟨b, j, none⟩ = false := frozen_of_row w b j _ t h
theorem Blk.set {b : Nat} {t : TypeId} {k : IntKind} {l : List Nat} {w : World} (h : Blk b t k l w) (j x : Nat) : Blk b t k (l.set j x) (w.setCell ⟨b, j, none⟩ (.int k (x : Int))) := by
  have e := heap_setCell_at (o := j) (v := .int k (x : Int)) h
  rw [List.setIfInBounds_toArray, nums_set] at e
  exact e
theorem Blk.below {b : Nat} {t : TypeId} {k : IntKind} {l : List Nat} {w w' : World} (h : Blk b t k l w) (hb : Below w.heap.size w w') : Blk b t k l w' := (hb.block b h.lt).trans h
theorem Blk.but {b g : Nat} {t : TypeId} {k : IntKind} {l : List Nat} {w w' : World} (h : Blk b t k l w) (hb : But g w w') (hne : b ≠ g) : Blk b t k l w' := (hb.block b h.lt hne).trans h
theorem Blk.alloc {b : Nat} {t : TypeId} {k : IntKind} {l : List Nat} {w : World} (h : Blk b t k l w) (o : Obj) : Blk b t k l (w.alloc o) := (heap_alloc_old w o h.lt).trans h
theorem Blk.drawn {b : Nat} {t : TypeId} {k : IntKind} {l : List Nat} {w : World} (h : Blk b t k l w) (n : Nat) : Blk b t k l (w.drewN n) := h
theorem Blk.row {b : Nat} {t : TypeId} {k : IntKind} {l l' : List Nat} {w : World} (h : Blk b t k l w) : Blk b t k l' (w.setRow b (nums k l').toArray) := setRow_heap _ _ _ _ _ _ h
theorem Blk.rowNe {b g : Nat} {t : TypeId} {k : IntKind} {l : List Nat} {w : World} (h : Blk b t k l w) (cs : Array Value) (hne : b ≠ g) : Blk b t k l (w.setRow g cs) := (setRow_other w g b cs hne).trans h
theorem But.setRow {b : Nat} {w w' : World} (h : But b w w') (cs : Array Value) : But b w (w'.setRow b cs) :=
  h.trans ⟨rfl, rfl, rfl, by simp, fun k _ hb => setRow_other w' b k cs hb⟩
theorem But.new {b g : Nat} {w w1 w2 : World} (h : But b w w1) (k : But g w1 w2) (hg : w.heap.size ≤ g) : But b w w2 :=
  ⟨k.os.trans h.os, k.tape.trans h.tape, k.output.trans h.output, Nat.le_trans h.size k.size, fun i hi hb => (k.block i (Nat.lt_of_lt_of_le hi h.size) (by omega)).trans (h.block i hi hb)⟩
theorem But.alloc {b : Nat} {w w' : World} (h : But b w w') (o : Obj) : But b w (w'.alloc o) := h.below ((Below.refl _ _).alloc (Nat.le_refl _) _)

theorem shaN_len (s : List UInt8) : (shaN s).length = 32 := by simp [shaN, outN]
theorem nums_size (k : IntKind) (l : List Nat) : (nums k l).toArray.size = l.length := by simp [nums]
theorem nums_all (k : IntKind) (l : List Nat) : (nums k l).toArray.all (·.oneCell') = true := by
  rw [Array.all_eq_true_iff_forall_mem]
  intro x hx
  exact nums_one k l x (by simpa using hx)
theorem Tryd.infoId : (Tryd.prog.info? 44).map (fun i => i.size) = some 32 := by kernel_rfl
theorem Tryd.infoW : (Tryd.prog.info? 87).map (fun i => i.size) = some 64 := by kernel_rfl
theorem Tryd.infoB : (Tryd.prog.info? 66).map (fun i => i.size) = some 64 := by kernel_rfl
theorem Tryd.infoS : (Tryd.prog.info? 64).map (fun i => i.size) = some 8 := by kernel_rfl

theorem arrW_get (b : Nat → Nat) {j k : Nat} (h : j < k) (_hk : k ≤ 64) : (arrW b k).getD j 0 = (wl b k).getD j 0 := by
  unfold arrW
  rw [List.getD_eq_getElem?_getD, List.getElem?_append_left (by rw [wl_len]; exact h), ← List.getD_eq_getElem?_getD]
theorem run_index_nums {P : Program} (t e : TypeId) (n : Nat) (k : IntKind) (l : List Nat) (j : Nat) (w : World) (h : P.underlying t = some (.array n e)) (hl : l.length = n) (hz : ∀ w, (sizeOf e).run P w = .ok 1 w) (ha : ∀ w, (isAgg e).run P w = .ok false w) (hj : j < n) :
    (Instr.index t (.agg (nums k l).toArray) (.int .i64 (j : Int))).run P w = .ok (.int k ((l.getD j 0 : Nat) : Int)) w := by
  have h2 : (0 : Int) ≤ j ∧ (j : Int) < n := by omega
  have hn : (nums k l)[j]? = some (.int k ((l.getD j 0 : Nat) : Int)) := by
    rw [nums, List.getElem?_map, List.getElem?_eq_getElem (by omega), List.getD_eq_getElem?_getD, List.getElem?_eq_getElem (by omega)]
    rfl
  simp [Instr.index, run_underlying h, asIntOf, hj, go_sem, hz, ha]
  rw [hn]
  simp

/-- The table of the round constants lies as the program's text lays it. -/
def KAt (w : World) : Prop := ∀ j, j < 64 → w.cell? ⟨0, j, none⟩ = some (.int .u32 ((shaK.getD j 0 : Nat) : Int))
theorem KAt.lt {w : World} (h : KAt w) : 0 < w.heap.size := block_lt_of_cell (h 0 (by decide))
theorem KAt.below {w w' : World} (h : KAt w) (hb : Below w.heap.size w w') : KAt w' := fun j hj => (hb.cell (p := ⟨0, j, none⟩) h.lt).trans (h j hj)
theorem KAt.but {g : Nat} {w w' : World} (h : KAt w) (hb : But g w w') (hne : 0 ≠ g) : KAt w' := fun j hj => (World.cell?_of_block (w := w) (a := ⟨0, j, none⟩) (hb.block _ h.lt hne)).trans (h j hj)

/-- A block's bytes. -/
def bAt (l : List Nat) : Nat → Nat := fun j => l.getD j 0
theorem bAt_lt {l : List Nat} (h : ∀ x ∈ l, x < 256) (j : Nat) : bAt l j < 256 := getD_lt h (by decide) j
theorem word_or (a b c d : Nat) (ha : a < 256) (hb : b < 256) (hc : c < 256) (hd : d < 256) :
    bits BinOp.or IntKind.u32 (bits BinOp.or IntKind.u32 (bits BinOp.or IntKind.u32 ((a : Int) * 16777216) ((b : Int) * 65536)) ((c : Int) * 256)) (d : Int) = ((a * 16777216 + b * 65536 + c * 256 + d : Nat) : Int) := by
  have e1 : (a : Int) * 16777216 = ((a * 16777216 : Nat) : Int) := by omega
  have e2 : (b : Int) * 65536 = ((b * 65536 : Nat) : Int) := by omega
  have e3 : (c : Int) * 256 = ((c * 256 : Nat) : Int) := by omega
  have h1 : a * 16777216 ||| b * 65536 = a * 16777216 + b * 65536 := by
    have := Nat.two_pow_add_eq_or_of_lt (i := 24) (show b * 65536 < 2 ^ 24 by omega) a
    rw [Nat.mul_comm] at this
    exact this.symm
  have h2 : (a * 16777216 + b * 65536) ||| c * 256 = a * 16777216 + b * 65536 + c * 256 := by
    have := Nat.two_pow_add_eq_or_of_lt (i := 16) (show c * 256 < 2 ^ 16 by omega) (a * 256 + b)
    rw [show 2 ^ 16 * (a * 256 + b) = a * 16777216 + b * 65536 by omega] at this
    exact this.symm
  have h3 : (a * 16777216 + b * 65536 + c * 256) ||| d = a * 16777216 + b * 65536 + c * 256 + d := by
    have := Nat.two_pow_add_eq_or_of_lt (i := 8) (show d < 2 ^ 8 by omega) (a * 65536 + b * 256 + c)
    rw [show 2 ^ 8 * (a * 65536 + b * 256 + c) = a * 16777216 + b * 65536 + c * 256 by omega] at this
    exact this.symm
  rw [e1, e2, e3, u32_or_nat _ _ (by omega) (by omega), h1, u32_or_nat _ _ (by omega) (by omega), h2, u32_or_nat _ _ (by omega) (by omega), h3]
end Go.Proofs.YtlgmlnhjanjplaaDoor
