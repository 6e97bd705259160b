/-
  Digits, as plain mathematics.
-/
import Derived.Test.YtjgjgmjdoihmiaaDoorStepsM
namespace Go.Proofs.YtjgjgmjdoihmiaaDoor
open Go.RowKit

def digL : List Nat → List Nat
  | [] => []
  | x :: l => x / 16 :: x % 16 :: digL l
theorem digL_len (l : List Nat) : (digL l).length = 2 * l.length := by
  induction l with
  | nil => rfl
  | cons x l ih => simp only [digL, List.length_cons, ih]; omega
theorem digL_append (l m : List Nat) : digL (l ++ m) = digL l ++ digL m := by
  induction l with
  | nil => rfl
  | cons x l ih => simp [digL, ih]
theorem digL_next {l : List Nat} {k : Nat} (h : k < l.length) : digL (l.take (k + 1)) = digL (l.take k) ++ [l.getD k 0 / 16, l.getD k 0 % 16] := by
  rw [List.take_succ_eq_append_getElem h, digL_append, List.getD_eq_getElem?_getD, List.getElem?_eq_getElem h]
  rfl
theorem digL_lt {l : List Nat} (hl : ∀ x ∈ l, x < 256) : ∀ d ∈ digL l, d < 16 := by
  induction l with
  | nil => intro d h; cases h
  | cons x l ih =>
    intro d hd
    have hx := hl x (by simp)
    simp only [digL, List.mem_cons] at hd
    rcases hd with rfl | rfl | hd
    · omega
    · omega
    · exact ih (fun y hy => hl y (by simp [hy])) d hd
theorem digL_inj {l m : List Nat} (h : digL l = digL m) : l = m := by
  induction l generalizing m with
  | nil =>
    cases m with
    | nil => rfl
    | cons y m => simp [digL] at h
  | cons x l ih =>
    cases m with
    | nil => simp [digL] at h
    | cons y m =>
      simp only [digL, List.cons.injEq] at h
      rw [ih h.2.2, show x = y by omega]
/-- What digits leave to 15. -/
def leftL (l : List Nat) : Nat := (l.map fun d => 15 - d).sum
theorem leftL_append (l m : List Nat) : leftL (l ++ m) = leftL l + leftL m := by simp [leftL]
theorem leftL_next {l : List Nat} {k : Nat} (h : k < l.length) : leftL (l.take (k + 1)) = leftL (l.take k) + (15 - l.getD k 0) := by
  rw [List.take_succ_eq_append_getElem h, leftL_append, List.getD_eq_getElem?_getD, List.getElem?_eq_getElem h]
  simp [leftL]
theorem leftL_le (l : List Nat) : leftL l ≤ 15 * l.length := by
  induction l with
  | nil => simp [leftL]
  | cons x l ih => simp only [leftL, List.map_cons, List.sum_cons, List.length_cons] at *; omega
/-- The digits of an element. -/
def sumL (n : Nat) : List Nat := [n / 256, n / 16 % 16, n % 16]
def digN (x : List Nat) : List Nat := digL x ++ sumL (leftL (digL x))
theorem digN_len {x : List Nat} (hx : x.length = 16) : (digN x).length = 35 := by
  rw [digN, List.length_append, digL_len, hx]; rfl
theorem left_480 {x : List Nat} (hx : x.length = 16) : leftL (digL x) ≤ 480 := by
  have := leftL_le (digL x)
  rw [digL_len, hx] at this
  exact this
theorem digN_lt {x : List Nat} (hx : x.length = 16) (hl : ∀ y ∈ x, y < 256) : ∀ d ∈ digN x, d < 16 := by
  intro d hd
  have h := left_480 hx
  rw [digN, List.mem_append] at hd
  rcases hd with hd | hd
  · exact digL_lt hl d hd
  · simp only [sumL, List.mem_cons, List.not_mem_nil, or_false] at hd
    rcases hd with rfl | rfl | rfl <;> omega

/-- No digit greater, and as much left: the same. -/
theorem left_mono {l m : List Nat} (hlen : l.length = m.length) (h : ∀ j, l.getD j 0 ≤ m.getD j 0) : leftL m ≤ leftL l := by
  induction l generalizing m with
  | nil =>
    cases m with
    | nil => exact Nat.le_refl _
    | cons y m => simp at hlen
  | cons x l ih =>
    cases m with
    | nil => simp at hlen
    | cons y m =>
      have h0 := h 0
      have h1 := ih (m := m) (by simpa using hlen) (fun j => by have := h (j + 1); simpa using this)
      simp only [List.getD_cons_zero] at h0
      simp only [leftL, List.map_cons, List.sum_cons] at *
      omega
theorem left_same {l m : List Nat} (hlen : l.length = m.length) (hm : ∀ d ∈ m, d < 16) (h : ∀ j, l.getD j 0 ≤ m.getD j 0) (hs : leftL l ≤ leftL m) : l = m := by
  induction l generalizing m with
  | nil =>
    cases m with
    | nil => rfl
    | cons y m => simp at hlen
  | cons x l ih =>
    cases m with
    | nil => simp at hlen
    | cons y m =>
      have h0 := h 0
      simp only [List.getD_cons_zero] at h0
      have ht : ∀ j, l.getD j 0 ≤ m.getD j 0 := fun j => by have := h (j + 1); simpa using this
      have hl2 : l.length = m.length := by simpa using hlen
      have hy := hm y (by simp)
      have h1 := left_mono hl2 ht
      simp only [leftL, List.map_cons, List.sum_cons] at hs h1
      have e : x = y := by omega
      subst e
      rw [ih hl2 (fun d hd => hm d (by simp [hd])) ht (by simp only [leftL]; omega)]
theorem getD_left (l m : List Nat) (j : Nat) (h : j < l.length) : (l ++ m).getD j 0 = l.getD j 0 := by
  rw [List.getD_eq_getElem?_getD, List.getElem?_append_left h, ← List.getD_eq_getElem?_getD]
theorem getD_right (l m : List Nat) (j : Nat) : (l ++ m).getD (l.length + j) 0 = m.getD j 0 := by
  rw [List.getD_eq_getElem?_getD, List.getElem?_append_right (by omega), List.getD_eq_getElem?_getD]
  congr 2
  omega
/-- Elements of which one has no greater digit are the same. -/
theorem digN_le {x y : List Nat} (hx : x.length = 16) (hy : y.length = 16) (ly : ∀ d ∈ y, d < 256) (h : ∀ j, j < 35 → (digN x).getD j 0 ≤ (digN y).getD j 0) : x = y := by
  have e1 : (digL x).length = 32 := by rw [digL_len, hx]
  have e2 : (digL y).length = 32 := by rw [digL_len, hy]
  have hd : ∀ j, (digL x).getD j 0 ≤ (digL y).getD j 0 := fun j => by
    by_cases hj : j < 32
    · have := h j (by omega)
      rwa [digN, digN, getD_left _ _ _ (by omega), getD_left _ _ _ (by omega)] at this
    · rw [List.getD_eq_getElem?_getD, List.getElem?_eq_none (by omega)]
      exact Nat.zero_le _
  have hs : ∀ j, j < 3 → (sumL (leftL (digL x))).getD j 0 ≤ (sumL (leftL (digL y))).getD j 0 := fun j hj => by
    have := h (32 + j) (by omega)
    have a := getD_right (digL x) (sumL (leftL (digL x))) j
    have b := getD_right (digL y) (sumL (leftL (digL y))) j
    rw [e1] at a
    rw [e2] at b
    rwa [digN, digN, a, b] at this
  have s0 := hs 0 (by omega)
  have s1 := hs 1 (by omega)
  have s2 := hs 2 (by omega)
  simp only [sumL, List.getD_cons_zero, List.getD_cons_succ] at s0 s1 s2
  exact digL_inj (left_same (by rw [e1, e2]) (digL_lt ly) hd (by omega))

/-- The array while it is filled: k bytes' digits; then the checksum's, from its end. -/
def arrD (x : List Nat) (k : Nat) : List Nat := digL (x.take k) ++ List.replicate (35 - 2 * k) 0
theorem arrD_len {x : List Nat} (hx : x.length = 16) {k : Nat} (hk : k ≤ 16) : (arrD x k).length = 35 := by
  rw [arrD, List.length_append, digL_len, List.length_take, List.length_replicate, hx]; omega
theorem arrD_set {x : List Nat} (hx : x.length = 16) {k : Nat} (hk : k < 16) : ((arrD x k).set (2 * k) (x.getD k 0 / 16)).set (2 * k + 1) (x.getD k 0 % 16) = arrD x (k + 1) := by
  have hl : (digL (x.take k)).length = 2 * k := by rw [digL_len, List.length_take, hx]; omega
  unfold arrD
  rw [digL_next (by rw [hx]; exact hk), List.set_append_right _ _ (by omega), hl, Nat.sub_self, show 35 - 2 * k = (35 - 2 * (k + 1)) + 1 + 1 by omega, List.replicate_succ, List.replicate_succ, List.set_cons_zero, List.set_append_right _ _ (by omega), hl, show 2 * k + 1 - 2 * k = 1 by omega, List.set_cons_succ, List.set_cons_zero, List.append_assoc]
  rfl
theorem arrD_full {x : List Nat} (hx : x.length = 16) : arrD x 16 = digL x ++ [0, 0, 0] := by
  rw [arrD, List.take_of_length_le (by omega)]; rfl
def tailD (n : Nat) : Nat → List Nat
  | 0 => [0, 0, 0]
  | 1 => [0, 0, n % 16]
  | 2 => [0, n / 16 % 16, n % 16]
  | _ => sumL n
theorem tailD_len (n j : Nat) : (tailD n j).length = 3 := by
  match j with
  | 0 => rfl
  | 1 => rfl
  | 2 => rfl
  | _ + 3 => rfl
theorem tailD_set {n : Nat} (hn : n ≤ 480) (l : List Nat) (hl : l.length = 32) {j : Nat} (hj : j < 3) : (l ++ tailD n j).set (34 - j) (n / 16 ^ j % 16) = l ++ tailD n (j + 1) := by
  rw [List.set_append_right _ _ (by omega), hl]
  congr 1
  match j, hj with
  | 0, _ => simp [tailD]
  | 1, _ => simp [tailD]
  | 2, _ => simp [tailD, sumL]; omega
theorem left_bytes {x : List Nat} (lx : ∀ y ∈ x, y < 256) {k : Nat} (h : k < x.length) : leftL (digL (x.take (k + 1))) = leftL (digL (x.take k)) + 30 - x.getD k 0 / 16 - x.getD k 0 % 16 := by
  have h2 := getD_lt lx (by decide) k
  rw [digL_next h, leftL_append]
  simp only [leftL, List.map_cons, List.map_nil, List.sum_cons, List.sum_nil]
  omega
/-- Is one of the first k numbers less than the other's? -/
def lessB (a b : List Nat) (k : Nat) : Bool := (List.range k).any fun j => decide (a.getD j 0 < b.getD j 0)
theorem lessB_next (a b : List Nat) (k : Nat) : lessB a b (k + 1) = (lessB a b k || decide (a.getD k 0 < b.getD k 0)) := by
  simp [lessB, List.range_succ, List.any_append]
theorem lessB_same (a : List Nat) (k : Nat) : lessB a a k = false := by simp [lessB]
theorem lessB_not {a b : List Nat} {k : Nat} (h : lessB a b k = false) (j : Nat) (hj : j < k) : b.getD j 0 ≤ a.getD j 0 := by
  have := List.any_eq_false.1 h j (List.mem_range.2 hj)
  simp at this
  simpa using this
theorem lessB_digits {x y : List Nat} (hx : x.length = 16) (hy : y.length = 16) (lx : ∀ d ∈ x, d < 256) (h : x ≠ y) : lessB (digN x) (digN y) 35 = true := by
  cases e : lessB (digN x) (digN y) 35 with
  | true => rfl
  | false => exact absurd (digN_le hy hx lx (lessB_not e)).symm h
end Go.Proofs.YtjgjgmjdoihmiaaDoor
