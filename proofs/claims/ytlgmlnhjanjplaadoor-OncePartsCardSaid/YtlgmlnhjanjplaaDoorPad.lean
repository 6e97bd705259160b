/-
  The padded bytes, byte by byte; how the developers' blocks are those of the padded bytes.
-/
import Derived.Test.YtlgmlnhjanjplaaDoorCopy
namespace Go.Proofs.YtlgmlnhjanjplaaDoor
open Go.RowKit

theorem l8_at (N i q : Nat) (h : q < i) : (l8 N i).getD q 0 = N * 256 ^ q % 18446744073709551616 / 72057594037927936 := by
  induction i with
  | zero => omega
  | succ i ih =>
    rw [l8, List.getD_eq_getElem?_getD]
    by_cases hq : q < i
    · rw [List.getElem?_append_left (by rw [l8_len]; exact hq), ← List.getD_eq_getElem?_getD, ih hq]
    · obtain rfl : q = i := by omega
      rw [List.getElem?_append_right (by rw [l8_len]; exact Nat.le_refl _), l8_len, Nat.sub_self]
      rfl
theorem l8_byte (N q : Nat) (hN : N < 18446744073709551616) (hq : q < 8) : N * 256 ^ q % 18446744073709551616 / 72057594037927936 = N / 2 ^ (8 * (7 - q)) % 256 := by
  match q, hq with
  | 0, _ => show N * 1 % _ / _ = N / 72057594037927936 % 256; omega
  | 1, _ => show N * 256 % _ / _ = N / 281474976710656 % 256; omega
  | 2, _ => show N * 65536 % _ / _ = N / 1099511627776 % 256; omega
  | 3, _ => show N * 16777216 % _ / _ = N / 4294967296 % 256; omega
  | 4, _ => show N * 4294967296 % _ / _ = N / 16777216 % 256; omega
  | 5, _ => show N * 1099511627776 % _ / _ = N / 65536 % 256; omega
  | 6, _ => show N * 281474976710656 % _ / _ = N / 256 % 256; omega
  | 7, _ => show N * 72057594037927936 % _ / _ = N / 1 % 256; omega

theorem padN_byte (s : List UInt8) (i : Nat) (h : i < s.length) : (padN s).getD i 0 = (byteNs s).getD i 0 := by
  unfold padN
  rw [List.append_assoc, List.append_assoc, List.getD_eq_getElem?_getD, List.getElem?_append_left (by rw [byteNs_len]; exact h), ← List.getD_eq_getElem?_getD]
theorem padN_mark (s : List UInt8) : (padN s).getD s.length 0 = 128 := by
  unfold padN
  rw [List.append_assoc, List.append_assoc, List.getD_eq_getElem?_getD, List.getElem?_append_right (by rw [byteNs_len]; exact Nat.le_refl _), byteNs_len, Nat.sub_self]
  rfl
theorem padN_zero (s : List UInt8) (i : Nat) (h : s.length < i) (h2 : i < s.length + 1 + zerosN s.length) : (padN s).getD i 0 = 0 := by
  unfold padN
  rw [List.append_assoc, List.getD_eq_getElem?_getD, List.getElem?_append_right (by simp [byteNs_len]; omega), List.getElem?_append_left (by simp [byteNs_len]; omega), List.getElem?_replicate]
  split <;> rfl
theorem padN_end (s : List UInt8) (q : Nat) (h : q < 8) : (padN s).getD (s.length + 1 + zerosN s.length + q) 0 = s.length * 8 * 256 ^ q % 18446744073709551616 / 72057594037927936 := by
  unfold padN
  rw [List.getD_eq_getElem?_getD, List.getElem?_append_right (by simp [byteNs_len]; omega), ← List.getD_eq_getElem?_getD]
  have e : (byteNs s ++ [128] ++ List.replicate (zerosN s.length) 0).length = s.length + 1 + zerosN s.length := by simp [byteNs_len]; omega
  rw [e, Nat.add_sub_cancel_left]
  exact l8_at _ _ _ h

theorem byteNs_drop (s : List UInt8) (n : Nat) : byteNs (s.drop n) = (byteNs s).drop n := by simp [byteNs]
theorem byteNs_take (s : List UInt8) (n : Nat) : byteNs (s.take n) = (byteNs s).take n := by simp [byteNs]
theorem getD_drop (l : List Nat) (n j : Nat) : (l.drop n).getD j 0 = l.getD (n + j) 0 := by simp [List.getD_eq_getElem?_getD]
theorem getD_take (l : List Nat) (n j : Nat) (h : j < n) : (l.take n).getD j 0 = l.getD j 0 := by simp [List.getD_eq_getElem?_getD, h]

/-- A whole block of the text. -/
theorem blocks_next (s : List UInt8) (m : Nat) (h : 64 * m + 64 ≤ s.length) : block (blocks (padN s) m) (bAt (byteNs ((s.drop (64 * m)).take 64))) = blocks (padN s) (m + 1) := by
  show _ = block (blocks (padN s) m) (fun j => (padN s).getD (64 * m + j) 0)
  refine block_congr _ fun j hj => ?_
  show (byteNs ((s.drop (64 * m)).take 64)).getD j 0 = _
  rw [byteNs_take, getD_take _ _ _ hj, byteNs_drop, getD_drop, padN_byte _ _ (by omega)]

theorem blocks_short (s : List UInt8) (m : Nat) (h : 64 * m ≤ s.length) (h2 : s.length ≤ 64 * m + 55) (hN : s.length * 8 < 18446744073709551616) :
    block (blocks (padN s) m) (bAt (fillL (tailL (s.drop (64 * m))) (s.length * 8) 8)) = blocks (padN s) ((padN s).length / 64) := by
  have hz : zerosN s.length = 64 * m + 55 - s.length := by unfold zerosN; omega
  have hl : (padN s).length / 64 = m + 1 := by rw [padN_len]; omega
  rw [hl]
  show _ = block (blocks (padN s) m) (fun j => (padN s).getD (64 * m + j) 0)
  have hr : (s.drop (64 * m)).length = s.length - 64 * m := List.length_drop
  refine block_congr _ fun j hj => ?_
  show (fillL (tailL (s.drop (64 * m))) (s.length * 8) 8).getD j 0 = _
  rw [fillL_at _ _ _ _ (tailL_len (by omega)) hj (by omega)]
  by_cases h8 : 63 - j < 8
  · rw [if_pos h8]
    have e := padN_end s (j - 56) (by omega)
    rw [show s.length + 1 + zerosN s.length + (j - 56) = 64 * m + j by omega, l8_byte _ _ hN (by omega), show 7 - (j - 56) = 63 - j by omega] at e
    exact e.symm
  · rw [if_neg h8, tailL_at (by omega) j hj, hr]
    by_cases h1 : j < s.length - 64 * m
    · rw [if_pos h1, byteNs_drop, getD_drop, padN_byte _ _ (by omega)]
    · rw [if_neg h1]
      by_cases h3 : j = s.length - 64 * m
      · rw [if_pos h3, show 64 * m + j = s.length by omega, padN_mark]
      · rw [if_neg h3, padN_zero _ _ (by omega) (by omega)]

theorem blocks_long (s : List UInt8) (m : Nat) (h : 64 * m + 56 ≤ s.length) (h2 : s.length ≤ 64 * m + 63) (hN : s.length * 8 < 18446744073709551616) :
    block (block (blocks (padN s) m) (bAt (tailL (s.drop (64 * m))))) (bAt (fillL (List.replicate 64 0) (s.length * 8) 8)) = blocks (padN s) ((padN s).length / 64) := by
  have hz : zerosN s.length = 64 * m + 119 - s.length := by unfold zerosN; omega
  have hl : (padN s).length / 64 = m + 1 + 1 := by rw [padN_len]; omega
  rw [hl]
  show _ = block (block (blocks (padN s) m) (fun j => (padN s).getD (64 * m + j) 0)) (fun j => (padN s).getD (64 * (m + 1) + j) 0)
  have hr : (s.drop (64 * m)).length = s.length - 64 * m := List.length_drop
  have e1 : block (blocks (padN s) m) (bAt (tailL (s.drop (64 * m)))) = block (blocks (padN s) m) (fun j => (padN s).getD (64 * m + j) 0) := by
    refine block_congr _ fun j hj => ?_
    show (tailL (s.drop (64 * m))).getD j 0 = _
    rw [tailL_at (by omega) j hj, hr]
    by_cases h1 : j < s.length - 64 * m
    · rw [if_pos h1, byteNs_drop, getD_drop, padN_byte _ _ (by omega)]
    · rw [if_neg h1]
      by_cases h3 : j = s.length - 64 * m
      · rw [if_pos h3, show 64 * m + j = s.length by omega, padN_mark]
      · rw [if_neg h3, padN_zero _ _ (by omega) (by omega)]
  rw [e1]
  refine block_congr _ fun j hj => ?_
  show (fillL (List.replicate 64 0) (s.length * 8) 8).getD j 0 = _
  rw [fillL_at _ _ _ _ (List.length_replicate) hj (by omega)]
  by_cases h8 : 63 - j < 8
  · rw [if_pos h8]
    have e := padN_end s (j - 56) (by omega)
    rw [show s.length + 1 + zerosN s.length + (j - 56) = 64 * (m + 1) + j by omega, l8_byte _ _ hN (by omega), show 7 - (j - 56) = 63 - j by omega] at e
    exact e.symm
  · rw [if_neg h8, padN_zero _ _ (by omega) (by omega), List.getD_eq_getElem?_getD, List.getElem?_replicate]
    split <;> rfl
end Go.Proofs.YtlgmlnhjanjplaaDoor
