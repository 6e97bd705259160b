/-
  Keys, as plain mathematics.
-/
import Derived.Test.YtcjjhddppcmgoaaDoorOnceB
import Derived.Test.YtcjjhddppcmgoaaDoorTreeM
namespace Go.Proofs.YtcjjhddppcmgoaaDoor
open Go.RowKit

/-- What is signed of a text, by an index. -/
def digK (root : List Nat) (i : Int) (text : List UInt8) : List Nat := (shaN (listB [[116, 101, 120, 116], txt root, numB i.toNat, text])).take 16
theorem digK_len (root : List Nat) (i : Int) (text : List UInt8) : (digK root i text).length = 16 := by rw [digK, List.length_take, shaN_len]; rfl
theorem digK_lt (root : List Nat) (i : Int) (text : List UInt8) : ∀ y ∈ digK root i text, y < 256 := fun y hy => shaN_lt _ y (List.mem_of_mem_take hy)
theorem digK_small {root : List Nat} (hr : root.length = 16) {i : Int} (hi : i ≤ 9223372036854775807) {text : List UInt8} (ht : text.length ≤ 1000000) : (listB [[116, 101, 120, 116], txt root, numB i.toNat, text]).length ≤ 140737488350000 := by
  have e0 := numB_length_9 (n := [[116, 101, 120, 116], txt root, numB i.toNat, text].length) (by simp)
  have n1 := numB_length_9 (n := i.toNat) (by omega)
  have e1 := numB_length_9 (n := ([116, 101, 120, 116] : List UInt8).length) (by decide)
  have e2 := numB_length_9 (n := (txt root).length) (by rw [txt_len]; omega)
  have e3 := numB_length_9 (n := (numB i.toNat).length) (by omega)
  have e4 := numB_length_9 (n := text.length) (by omega)
  rw [listB_length]
  simp only [textsB_cons, List.length_append, textB_length, txt_len, hr, List.length_cons, List.length_nil, show textsB [] = [] from rfl] at *
  omega
/-- How many keys a height has. -/
def wideN (h : Int) : Nat := if h < 1 ∨ 8 < h then 0 else 2 ^ h.toNat
theorem wideN_ok {h : Nat} (h1 : 1 ≤ h) (h8 : h ≤ 8) : wideN h = 2 ^ h := by
  rw [wideN, if_neg (by omega), Int.toNat_natCast]
theorem wideN_zero {h : Int} (hb : h < 1 ∨ 8 < h) : wideN h = 0 := if_pos hb
theorem wideN_le (h : Int) : wideN h ≤ 256 := by
  unfold wideN
  split
  · omega
  · exact Nat.le_trans (Nat.pow_le_pow_right (by decide) (show h.toNat ≤ 8 by omega)) (by decide)
theorem leafN_len (seed : List UInt8) (i : Int) : (leafN seed i).length = 16 := keyN_len _ _
theorem leafN_lt (seed : List UInt8) (i : Int) : ∀ y ∈ leafN seed i, y < 256 := keyN_lt _ _
/-- The first n leaves. -/
def leavesN (seed : List UInt8) (n : Nat) : List (List Nat) := (List.range n).map fun (i : Nat) => leafN seed (i : Int)
theorem leavesN_len (seed : List UInt8) (n : Nat) : (leavesN seed n).length = n := by simp [leavesN]
theorem leavesN_next (seed : List UInt8) (n : Nat) : leavesN seed (n + 1) = leavesN seed n ++ [leafN seed (n : Int)] := by simp [leavesN, List.range_succ]
theorem leavesN_ok (seed : List UInt8) (n : Nat) : Elems (leavesN seed n) := by
  intro x hx
  obtain ⟨i, _, rfl⟩ := List.mem_map.1 hx
  exact ⟨leafN_len _ _, leafN_lt _ _⟩
theorem leavesN_get (seed : List UInt8) {n i : Nat} (h : i < n) : (leavesN seed n).getD i [] = leafN seed (i : Int) := by
  rw [List.getD_eq_getElem?_getD, List.getElem?_eq_getElem (by rw [leavesN_len]; exact h)]
  simp [leavesN]
def rootK (seed : List UInt8) (h : Nat) : List Nat := atN (leavesN seed (2 ^ h)) h 0
theorem rootK_ok (seed : List UInt8) (h : Nat) : (rootK seed h).length = 16 ∧ ∀ y ∈ rootK seed h, y < 256 :=
  atN_ok (leavesN_ok _ _) h 0 (by rw [leavesN_len, Nat.zero_mul]; exact Nat.two_pow_pos h)
/-- Elements, one behind the other. -/
def flatT (P : List (List Nat)) : List UInt8 := P.flatMap txt
theorem flatT_append (P Q : List (List Nat)) : flatT (P ++ Q) = flatT P ++ flatT Q := by simp [flatT]
theorem flatT_one (x : List Nat) : flatT [x] = txt x := by simp [flatT]
theorem flatT_len {P : List (List Nat)} (h : Elems P) : (flatT P).length = 16 * P.length := by
  induction P with
  | nil => rfl
  | cons x P ih =>
    have h1 := (h x (by simp)).1
    have h2 := ih fun y hy => h y (by simp [hy])
    simp only [flatT, List.flatMap_cons, List.length_append, txt_len, List.length_cons] at *
    omega
theorem part_flatT {P : List (List Nat)} (h : Elems P) : ∀ {j : Nat}, j < P.length → part (flatT P) j = txt (P.getD j []) := by
  induction P with
  | nil => intro j hj; cases hj
  | cons x P ih =>
    intro j hj
    have h1 := (h x (by simp)).1
    have hx : (txt x).length = 16 := by rw [txt_len, h1]
    rw [flatT, List.flatMap_cons, part]
    cases j with
    | zero => rw [Nat.mul_zero, List.drop_zero, List.take_append_of_le_length (by omega), List.take_of_length_le (by omega)]; rfl
    | succ j =>
      rw [show 16 * (j + 1) = (txt x).length + 16 * j by rw [hx]; omega, List.drop_append, List.drop_of_length_le (by omega), Nat.add_sub_cancel_left, List.nil_append]
      exact ih (fun y hy => h y (by simp [hy])) (by simpa using hj)
theorem part_app {a b : List UInt8} {j : Nat} (h : 16 * j + 16 ≤ a.length) : part (a ++ b) j = part a j := by
  rw [part, part, List.drop_append_of_le_length (by omega), List.take_append_of_le_length (by rw [List.length_drop]; omega)]
theorem part_behind {a b : List UInt8} {k j : Nat} (h : a.length = 16 * k) : part (a ++ b) (k + j) = part b j := by
  rw [part, part, show 16 * (k + j) = a.length + 16 * j by rw [h]; omega, List.drop_append, List.drop_of_length_le (by omega), Nat.add_sub_cancel_left, List.nil_append]
theorem part_take {s : List UInt8} {j n : Nat} (h : 16 * j + 16 ≤ n) : part (s.take n) j = part s j := by
  rw [part, part, List.drop_take, List.take_take, Nat.min_eq_left (by omega)]
theorem meetN_congr {s t : List UInt8} (h : ∀ j, j < 35 → part s j = part t j) (i : Int) (d : List Nat) : meetN s i d = meetN t i d := by
  unfold meetN
  rw [rowE_congr (g := metF t i d) fun j hj => by rw [metF, metF, h j hj]]
theorem meetN_take (s : List UInt8) (i : Int) (d : List Nat) : meetN (s.take 560) i d = meetN s i d := meetN_congr (fun j hj => part_take (by omega)) i d
/-- The signature. -/
def signK (seed : List UInt8) (h i : Nat) (text : List UInt8) : List UInt8 := signN seed i (digK (rootK seed h) i text) ++ flatT (pathN (leavesN seed (2 ^ h)) i h)
theorem pathK_ok (seed : List UInt8) {h i : Nat} (hi : i < 2 ^ h) : Elems (pathN (leavesN seed (2 ^ h)) i h) := pathN_ok (leavesN_ok _ _) (leavesN_len _ _) (by rw [leavesN_len]; exact hi) (Nat.le_refl _)
theorem signK_len (seed : List UInt8) {h i : Nat} (hi : i < 2 ^ h) (text : List UInt8) : (signK seed h i text).length = 560 + 16 * h := by
  rw [signK, List.length_append, signN_len, flatT_len (pathK_ok seed hi), pathN_len]
/-- The path that a signature holds. -/
def pathK (sig : List UInt8) (h : Nat) : List (List Nat) := (List.range h).map fun j => byteNs (part sig (35 + j))
theorem pathK_len (sig : List UInt8) (h : Nat) : (pathK sig h).length = h := by simp [pathK]
theorem pathK_next (sig : List UInt8) (h : Nat) : pathK sig (h + 1) = pathK sig h ++ [byteNs (part sig (35 + h))] := by simp [pathK, List.range_succ]
theorem pathK_elems {sig : List UInt8} {h : Nat} (hl : 560 + 16 * h ≤ sig.length) : Elems (pathK sig h) := by
  intro x hx
  obtain ⟨j, hj, rfl⟩ := List.mem_map.1 hx
  have hj2 := List.mem_range.1 hj
  refine ⟨?_, byteNs_part_lt _ _⟩
  rw [byteNs, List.length_map, part, List.length_take, List.length_drop]
  omega
/-- Does it verify? -/
def verK (root : List Nat) (h i : Int) (text sig : List UInt8) : Bool :=
  decide (0 ≤ i ∧ i < (wideN h : Int) ∧ sig.length = 560 + 16 * h.toNat) && (climbN (meetN sig i (digK root i text)) i (pathK sig h.toNat) h.toNat == root)
theorem verK_not {root : List Nat} {h i : Int} {text sig : List UInt8} (hb : ¬ (0 ≤ i ∧ i < (wideN h : Int) ∧ sig.length = 560 + 16 * h.toNat)) : verK root h i text sig = false := by
  rw [verK, decide_eq_false hb, Bool.false_and]
theorem verK_is {root : List Nat} {h i : Int} {text sig : List UInt8} (hb : 0 ≤ i ∧ i < (wideN h : Int) ∧ sig.length = 560 + 16 * h.toNat) : verK root h i text sig = (climbN (meetN sig i (digK root i text)) i (pathK sig h.toNat) h.toNat == root) := by
  rw [verK, decide_eq_true hb, Bool.true_and]
/-- What is signed verifies. -/
theorem ver_sign (seed : List UInt8) {h i : Nat} (h1 : 1 ≤ h) (h8 : h ≤ 8) (hi : i < 2 ^ h) (text : List UInt8) : verK (rootK seed h) h i text (signK seed h i text) = true := by
  have hP := pathK_ok seed hi
  have hPL := pathN_len (leavesN seed (2 ^ h)) i h
  rw [verK_is ⟨by omega, by rw [wideN_ok h1 h8]; omega, by rw [signK_len seed hi, Int.toNat_natCast]⟩, Int.toNat_natCast]
  have e1 : meetN (signK seed h i text) i (digK (rootK seed h) i text) = leafN seed i := by
    rw [signK, meetN_congr (t := signN seed i (digK (rootK seed h) i text)) (fun j hj => part_app (by rw [signN_len]; omega)), meet_sign _ _ (digK_len _ _ _) (digK_lt _ _ _)]
  have e2 : pathK (signK seed h i text) h = pathN (leavesN seed (2 ^ h)) i h := by
    refine List.ext_getElem (by rw [pathK_len, hPL]) fun j hj1 hj2 => ?_
    have hj : j < h := by rw [pathK_len] at hj1; exact hj1
    have hx := hP _ (List.getElem_mem hj2)
    simp only [pathK, List.getElem_map, List.getElem_range]
    rw [signK, part_behind (k := 35) (by rw [signN_len]), part_flatT hP (by rw [hPL]; exact hj), List.getD_eq_getElem?_getD, List.getElem?_eq_getElem hj2, Option.getD_some, byteNs_txt hx.2]
  rw [e1, e2, ← leavesN_get seed hi, climb_root _ hi, beq_iff_eq]
  rfl
end Go.Proofs.YtcjjhddppcmgoaaDoor
