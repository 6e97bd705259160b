/-
  Blocks of numbers; copying into them.
-/
import Derived.Test.YthgfpojfnhkckaaDoorOfA
import Derived.Great.BuildSlice
import Derived.Laws.Rows
import Derived.Laws.CopyOwn
import Derived.Lib.BufferWrite
/-! The developers' right (by the library's RotateLeft32): x turned to the right. -/
namespace Go.Proofs.YthgfpojfnhkckaaDoor
open Go.RowKit

theorem left_or (x k : Nat) (hx : x < 4294967296) : bits BinOp.or IntKind.u32 ((x : Int) * 2 ^ (32 - k) % 4294967296) ((x : Int) / 2 ^ k) = ((rotr x k : Nat) : Int) := by
  have h1 : x / 2 ^ k < 4294967296 := Nat.lt_of_le_of_lt (Nat.div_le_self _ _) hx
  have h2 : x * 2 ^ (32 - k) % 4294967296 < 4294967296 := Nat.mod_lt _ (by decide)
  have := u32_or_nat (x * 2 ^ (32 - k) % 4294967296) (x / 2 ^ k) h2 h1
  unfold rotr
  rw [Nat.or_comm, ← this]
  simp

theorem back_31 : ∀ k : Fin 32, 1 ≤ k.val → bits BinOp.and IntKind.u64 (18446744073709551616 - (k.val : Int)) 31 = ((32 - k.val : Nat) : Int) := by decide +kernel

theorem rotl_any (x k : Nat) (w : World) (hx : x < 4294967296) (hk1 : 1 ≤ k) (hk : k ≤ 31) :
    Calls Tryd.prog 50 #[.int .u32 x, .int .i64 (-(k : Int))] w fun e w' => e = .returned (.int .u32 (rotr x k)) ∧ w = w' := by
  have h := left_or x k hx
  have hb := back_31 ⟨k, by omega⟩ hk1
  have hw : IntKind.u64.wrap (-(k : Int)) = 18446744073709551616 - (k : Int) := by rw [IntKind.wrap_u64]; omega
  simp only at hb
  obtain ⟨j, hj⟩ : ∃ j, j = 32 - k := ⟨_, rfl⟩
  rw [← hj] at hb h
  have hj2 : (32 : Int) - (j : Int) = (k : Int) := by omega
  have b1 : (j : Int) ≤ 31 := by omega
  have b2 : 1 ≤ (j : Int) := by omega
  clear hj
  go_enter Tryd.func50, Tryd.ntmps50
  go_wp2_with fail
  go_ret
  exact ⟨rfl, rfl⟩

theorem right_any (x k : Nat) (w : World) (hx : x < 4294967296) (hk1 : 1 ≤ k) (hk : k ≤ 31) :
    Calls Tryd.prog 48 #[.int .u32 x, .int .i64 k] w fun e w' => e = .returned (.int .u32 (rotr x k)) ∧ w = w' := by
  go_enter Tryd.func48, Tryd.ntmps48
  go_wp2_with fail
  refine (rotl_any x k _ hx hk1 hk).mono ?_
  rintro e w1 ⟨rfl, rfl⟩
  go_wp2_with fail
  go_ret
  exact ⟨rfl, rfl⟩
theorem right_still (x k : Nat) (w : World) (hx : x < 4294967296) (hk1 : 1 ≤ k) (hk : k ≤ 31) :
    Calls Tryd.prog 48 #[.int .u32 x, .int .i64 k] w fun e w' => e = .returned (.int .u32 (rotr x k)) ∧ w' = w :=
  (right_any x k w hx hk1 hk).mono fun _ _ h => ⟨h.1, h.2.symm⟩
/-- At a number written out. -/
theorem right_lit (x : Nat) (i : Int) (k : Nat) (w : World) (hx : x < 4294967296) (e : i = (k : Int)) (hk1 : 1 ≤ k) (hk : k ≤ 31) :
    Calls Tryd.prog 48 #[.int .u32 x, .int .i64 i] w fun e w' => e = .returned (.int .u32 (rotr x k)) ∧ w' = w := by
  subst e
  exact right_still x k w hx hk1 hk
theorem right_int (x : Nat) (i : Int) (w : World) (hx : x < 4294967296) (h1 : 1 ≤ i) (h2 : i ≤ 31) :
    Calls Tryd.prog 48 #[.int .u32 x, .int .i64 i] w fun e w' => e = .returned (.int .u32 (rotr x i.toNat)) ∧ w' = w := by
  have h := right_still x i.toNat w hx (by omega) (by omega)
  rwa [show ((i.toNat : Nat) : Int) = i by omega] at h
end Go.Proofs.YthgfpojfnhkckaaDoor

/-! A block of memory that holds numbers (an array of its own): read, written, kept. -/
namespace Go.Proofs.YthgfpojfnhkckaaDoor
open Go.RowKit

theorem shaN_len (s : List UInt8) : (shaN s).length = 32 := by simp [shaN, outN]
theorem Tryd.infoId : (Tryd.prog.info? 25).map (fun i => i.size) = some 32 := by kernel_rfl
theorem Tryd.infoW : (Tryd.prog.info? 83).map (fun i => i.size) = some 64 := by kernel_rfl
theorem Tryd.infoB : (Tryd.prog.info? 70).map (fun i => i.size) = some 64 := by kernel_rfl
theorem Tryd.infoS : (Tryd.prog.info? 68).map (fun i => i.size) = some 8 := by kernel_rfl

theorem arrW_get (b : Nat → Nat) {j k : Nat} (h : j < k) (_hk : k ≤ 64) : (arrW b k).getD j 0 = (wl b k).getD j 0 := by
  unfold arrW
  rw [List.getD_eq_getElem?_getD, List.getElem?_append_left (by rw [wl_len]; exact h), ← List.getD_eq_getElem?_getD]
/-- The table of the round constants lies as the program's text lays it. -/
def KAt (w : World) : Prop := ∀ j, j < 64 → w.cell? ⟨0, j, none⟩ = some (.int .u32 ((shaK.getD j 0 : Nat) : Int))
theorem KAt.lt {w : World} (h : KAt w) : 0 < w.heap.size := block_lt_of_cell (h 0 (by decide))
theorem KAt.below {w w' : World} (h : KAt w) (hb : Below w.heap.size w w') : KAt w' := fun j hj => (hb.cell (p := ⟨0, j, none⟩) h.lt).trans (h j hj)
theorem KAt.but {g : Nat} {w w' : World} (h : KAt w) (hb : But g w w') (hne : 0 ≠ g) : KAt w' := fun j hj => (World.cell?_of_block (w := w) (a := ⟨0, j, none⟩) (hb.block _ h.lt hne)).trans (h j hj)

/-- A block's bytes. -/
def bAt (l : List Nat) : Nat → Nat := fun j => l.getD j 0
theorem bAt_lt {l : List Nat} (h : ∀ x ∈ l, x < 256) (j : Nat) : bAt l j < 256 := getD_lt h (by decide) j
theorem word_or (a b c d : Nat) (ha : a < 256) (hb : b < 256) (hc : c < 256) (hd : d < 256) :
    bits BinOp.or IntKind.u32 (bits BinOp.or IntKind.u32 (bits BinOp.or IntKind.u32 ((a : Int) * 16777216) ((b : Int) * 65536)) ((c : Int) * 256)) (d : Int) = ((a * 16777216 + b * 65536 + c * 256 + d : Nat) : Int) := by
  have e1 : (a : Int) * 16777216 = ((a * 16777216 : Nat) : Int) := by omega
  have e2 : (b : Int) * 65536 = ((b * 65536 : Nat) : Int) := by omega
  have e3 : (c : Int) * 256 = ((c * 256 : Nat) : Int) := by omega
  have h1 : a * 16777216 ||| b * 65536 = a * 16777216 + b * 65536 := by
    have := Nat.two_pow_add_eq_or_of_lt (i := 24) (show b * 65536 < 2 ^ 24 by omega) a
    rw [Nat.mul_comm] at this
    exact this.symm
  have h2 : (a * 16777216 + b * 65536) ||| c * 256 = a * 16777216 + b * 65536 + c * 256 := by
    have := Nat.two_pow_add_eq_or_of_lt (i := 16) (show c * 256 < 2 ^ 16 by omega) (a * 256 + b)
    rw [show 2 ^ 16 * (a * 256 + b) = a * 16777216 + b * 65536 by omega] at this
    exact this.symm
  have h3 : (a * 16777216 + b * 65536 + c * 256) ||| d = a * 16777216 + b * 65536 + c * 256 + d := by
    have := Nat.two_pow_add_eq_or_of_lt (i := 8) (show d < 2 ^ 8 by omega) (a * 65536 + b * 256 + c)
    rw [show 2 ^ 8 * (a * 65536 + b * 256 + c) = a * 16777216 + b * 65536 + c * 256 by omega] at this
    exact this.symm
  rw [e1, e2, e3, u32_or_nat _ _ (by omega) (by omega), h1, u32_or_nat _ _ (by omega) (by omega), h2, u32_or_nat _ _ (by omega) (by omega), h3]
end Go.Proofs.YthgfpojfnhkckaaDoor

/-! 'copy(array[:], s)': so many of a string's bytes as fit. -/
namespace Go.Proofs.YthgfpojfnhkckaaDoor
open Go.RowKit

/-- The first block that ends a text: its bytes, the mark, zeros. -/
def tailL (r : List UInt8) : List Nat := (byteNs (r.take 64) ++ (List.replicate 64 0).drop r.length).set r.length 128
theorem tailL_len {r : List UInt8} (h : r.length < 64) : (tailL r).length = 64 := by
  simp [tailL, byteNs_len]
  omega
theorem tailL_at {r : List UInt8} (h : r.length < 64) (j : Nat) (hj : j < 64) : (tailL r).getD j 0 = if j < r.length then (byteNs r).getD j 0 else if j = r.length then 128 else 0 := by
  unfold tailL
  rw [List.take_of_length_le (by omega), List.getD_eq_getElem?_getD, List.getElem?_set]
  by_cases h1 : r.length = j
  · subst h1
    rw [if_pos rfl, if_pos (by simp [byteNs_len]; omega), if_neg (by omega), if_pos rfl]
    rfl
  · rw [if_neg h1, if_neg (show ¬ j = r.length from fun e => h1 e.symm)]
    by_cases h2 : j < r.length
    · rw [if_pos h2, List.getElem?_append_left (by rw [byteNs_len]; exact h2), List.getD_eq_getElem?_getD]
    · rw [if_neg h2, List.getElem?_append_right (by rw [byteNs_len]; omega), List.getElem?_drop, List.getElem?_replicate]
      split <;> rfl
theorem tailL_lt (r : List UInt8) : ∀ x ∈ tailL r, x < 256 := by
  intro x hx
  rcases List.mem_or_eq_of_mem_set hx with h | rfl
  · rcases List.mem_append.1 h with h | h
    · exact byteNs_lt _ x h
    · have := List.eq_of_mem_replicate (List.mem_of_mem_drop h)
      omega
  · decide

/-- The length's eight bytes, laid from behind. -/
def fillL (l : List Nat) (N : Nat) : Nat → List Nat
  | 0 => l
  | i + 1 => (fillL l N i).set (63 - i) (N / 2 ^ (8 * i) % 256)
theorem fillL_len (l : List Nat) (N i : Nat) : (fillL l N i).length = l.length := by
  induction i with
  | zero => rfl
  | succ i ih => rw [fillL, List.length_set, ih]
theorem fillL_at (l : List Nat) (N i j : Nat) (hl : l.length = 64) (hj : j < 64) (hi : i ≤ 8) : (fillL l N i).getD j 0 = if 63 - j < i then N / 2 ^ (8 * (63 - j)) % 256 else l.getD j 0 := by
  induction i with
  | zero => rfl
  | succ i ih =>
    rw [fillL, List.getD_eq_getElem?_getD, List.getElem?_set, fillL_len, hl]
    by_cases h : 63 - i = j
    · subst h
      rw [if_pos rfl, if_pos (by omega), if_pos (by omega), show 63 - (63 - i) = i by omega]
      rfl
    · rw [if_neg h, ← List.getD_eq_getElem?_getD, ih (by omega)]
      by_cases h2 : 63 - j < i
      · rw [if_pos h2, if_pos (by omega)]
      · rw [if_neg h2, if_neg (by omega)]
theorem fillL_lt {l : List Nat} (h : ∀ x ∈ l, x < 256) (N i : Nat) : ∀ x ∈ fillL l N i, x < 256 := by
  induction i with
  | zero => exact h
  | succ i ih =>
    intro x hx
    rcases List.mem_or_eq_of_mem_set hx with h | rfl
    · exact ih x h
    · exact Nat.mod_lt _ (by decide)
/-- A block hangs on its 64 bytes alone. -/
theorem wl_congr {b c : Nat → Nat} (h : ∀ j, j < 64 → b j = c j) : ∀ i, wl b i = wl c i := by
  intro i
  induction i with
  | zero => rfl
  | succ i ih =>
    by_cases hi : i < 16
    · rw [wl_word hi, wl_word hi, ih]
      unfold wordN
      rw [h _ (by omega), h _ (by omega), h _ (by omega), h _ (by omega)]
    · rw [wl_next hi, wl_next hi, ih]
theorem block_congr (v : S8) {b c : Nat → Nat} (h : ∀ j, j < 64 → b j = c j) : block v b = block v c := by
  show addS v (rl v (wl b 64) 64) = addS v (rl v (wl c 64) 64)
  rw [wl_congr h 64]
theorem block_ok (v : S8) (b : Nat → Nat) : (block v b).Ok := addS_ok _ _
end Go.Proofs.YthgfpojfnhkckaaDoor
