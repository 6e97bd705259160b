/-
  Trees over elements, as plain mathematics.
-/
import Derived.Test.YtcjjhddppcmgoaaDoorElems
import Derived.Test.YtcjjhddppcmgoaaDoorPacks
namespace Go.Proofs.YtcjjhddppcmgoaaDoor
open Go.RowKit

/-- The parent of two elements. -/
def upN (l r : List Nat) (lev idx : Int) : List Nat := (shaN (listB [[110], txt l ++ txt r, numB lev.toNat, numB idx.toNat])).take 16
theorem upN_len (l r : List Nat) (lev idx : Int) : (upN l r lev idx).length = 16 := by rw [upN, List.length_take, shaN_len]; rfl
theorem upN_lt (l r : List Nat) (lev idx : Int) : ∀ y ∈ upN l r lev idx, y < 256 := fun y hy => shaN_lt _ y (List.mem_of_mem_take hy)
theorem upN_small {l r : List Nat} (hl : l.length = 16) (hr : r.length = 16) {lev idx : Int} (h1 : lev ≤ 9223372036854775807) (h2 : idx ≤ 9223372036854775807) : (listB [[110], txt l ++ txt r, numB lev.toNat, numB idx.toNat]).length ≤ 140737488350000 := by
  have e0 := numB_length_9 (n := [[110], txt l ++ txt r, numB lev.toNat, numB idx.toNat].length) (by simp)
  have n1 := numB_length_9 (n := lev.toNat) (by omega)
  have n2 := numB_length_9 (n := idx.toNat) (by omega)
  have e1 := numB_length_9 (n := ([110] : List UInt8).length) (by decide)
  have e2 := numB_length_9 (n := (txt l ++ txt r).length) (by rw [List.length_append, txt_len, txt_len]; omega)
  have e3 := numB_length_9 (n := (numB lev.toNat).length) (by omega)
  have e4 := numB_length_9 (n := (numB idx.toNat).length) (by omega)
  rw [listB_length]
  simp only [textsB_cons, List.length_append, textB_length, txt_len, hl, hr, List.length_cons, List.length_nil, show textsB [] = [] from rfl] at *
  omega
/-- Element i of a level. -/
def atN (L : List (List Nat)) : Nat → Nat → List Nat
  | 0, i => L.getD i []
  | k + 1, i => upN (atN L k (2 * i)) (atN L k (2 * i + 1)) ((k + 1 : Nat) : Int) (i : Int)
theorem atN_ok {L : List (List Nat)} (hL : Elems L) (k i : Nat) (hi : i * 2 ^ k < L.length) : (atN L k i).length = 16 ∧ ∀ y ∈ atN L k i, y < 256 := by
  cases k with
  | zero => exact hL.getD (by simpa using hi)
  | succ k => exact ⟨upN_len _ _ _ _, upN_lt _ _ _ _⟩
/-- A level's elements. -/
def lvl (L : List (List Nat)) (n k : Nat) : List (List Nat) := (List.range (n / 2 ^ k)).map (atN L k)
theorem lvl_len (L : List (List Nat)) (n k : Nat) : (lvl L n k).length = n / 2 ^ k := by simp [lvl]
theorem lvl_zero (L : List (List Nat)) : lvl L L.length 0 = L := by
  refine List.ext_getElem (by simp [lvl]) fun i h1 h2 => ?_
  simp only [lvl, List.getElem_map, List.getElem_range, atN]
  rw [List.getD_eq_getElem?_getD, List.getElem?_eq_getElem h2]
  rfl
theorem lvl_get (L : List (List Nat)) {n k i : Nat} (hi : i < n / 2 ^ k) : (lvl L n k).getD i [] = atN L k i := by
  rw [List.getD_eq_getElem?_getD, List.getElem?_eq_getElem (by rw [lvl_len]; exact hi)]
  simp [lvl]
/-- The next level, of a level's elements. -/
def pairsN (R : List (List Nat)) (k : Nat) (j : Nat) : List (List Nat) := (List.range j).map fun i => upN (R.getD (2 * i) []) (R.getD (2 * i + 1) []) ((k + 1 : Nat) : Int) (i : Int)
theorem pairsN_len (R : List (List Nat)) (k j : Nat) : (pairsN R k j).length = j := by simp [pairsN]
theorem pairsN_next (R : List (List Nat)) (k j : Nat) : pairsN R k (j + 1) = pairsN R k j ++ [upN (R.getD (2 * j) []) (R.getD (2 * j + 1) []) ((k + 1 : Nat) : Int) (j : Int)] := by
  simp [pairsN, List.range_succ]
theorem lvl_next (L : List (List Nat)) (n k : Nat) : pairsN (lvl L n k) k (n / 2 ^ (k + 1)) = lvl L n (k + 1) := by
  refine List.map_congr_left fun i hi => ?_
  have hi2 : i < n / 2 ^ (k + 1) := List.mem_range.1 hi
  have h2 : n / 2 ^ (k + 1) = n / 2 ^ k / 2 := by rw [Nat.pow_succ, Nat.div_div_eq_div_mul]
  rw [atN, lvl_get L (by omega), lvl_get L (by omega)]
/-- The height of a tree. -/
def heightN : Nat → Nat
  | 0 => 0
  | n + 1 => if n = 0 then 0 else heightN ((n + 1) / 2) + 1
decreasing_by omega
theorem heightN_one : heightN 1 = 0 := by simp [heightN]
theorem heightN_next {n : Nat} (h : 1 < n) : heightN n = heightN (n / 2) + 1 := by
  obtain ⟨m, rfl⟩ : ∃ m, n = m + 1 := ⟨n - 1, by omega⟩
  rw [heightN, if_neg (by omega)]
theorem heightN_pow (h : Nat) : heightN (2 ^ h) = h := by
  induction h with
  | zero => exact heightN_one
  | succ h ih =>
    have h1 : 1 ≤ 2 ^ h := Nat.one_le_two_pow
    rw [heightN_next (by rw [Nat.pow_succ]; omega), show 2 ^ (h + 1) / 2 = 2 ^ h by rw [Nat.pow_succ]; omega, ih]
/-- Can they be leaves? -/
def goodN (n : Nat) : Bool := n == 1 || n == 2 || n == 4 || n == 8 || n == 16 || n == 32 || n == 64 || n == 128 || n == 256
theorem goodN_pow {n : Nat} (h : goodN n = true) : ∃ k, k ≤ 8 ∧ n = 2 ^ k := by
  simp only [goodN, Bool.or_eq_true, beq_iff_eq] at h
  rcases h with (((((((h | h) | h) | h) | h) | h) | h) | h) | h
  · exact ⟨0, by omega, h⟩
  · exact ⟨1, by omega, h⟩
  · exact ⟨2, by omega, h⟩
  · exact ⟨3, by omega, h⟩
  · exact ⟨4, by omega, h⟩
  · exact ⟨5, by omega, h⟩
  · exact ⟨6, by omega, h⟩
  · exact ⟨7, by omega, h⟩
  · exact ⟨8, by omega, h⟩
/-- The sibling. -/
def sibN (i : Nat) : Nat := if i % 2 = 1 then i - 1 else i + 1
theorem sibN_lt {i m : Nat} (h : i < 2 * m) : sibN i < 2 * m := by unfold sibN; split <;> omega
/-- The first j elements of a leaf's path. -/
def pathN (L : List (List Nat)) (i : Nat) (j : Nat) : List (List Nat) := (List.range j).map fun k => atN L k (sibN (i / 2 ^ k))
theorem pathN_len (L : List (List Nat)) (i j : Nat) : (pathN L i j).length = j := by simp [pathN]
theorem pathN_next (L : List (List Nat)) (i j : Nat) : pathN L i (j + 1) = pathN L i j ++ [atN L j (sibN (i / 2 ^ j))] := by simp [pathN, List.range_succ]
/-- One step up. -/
def stepN (x y : List Nat) (at' : Int) (k : Nat) : List Nat := if at' % 2 = 0 then upN x y ((k + 1 : Nat) : Int) (at' / 2) else upN y x ((k + 1 : Nat) : Int) (at' / 2)
theorem stepN_len (x y : List Nat) (a : Int) (k : Nat) : (stepN x y a k).length = 16 := by unfold stepN; split <;> exact upN_len _ _ _ _
theorem stepN_lt (x y : List Nat) (a : Int) (k : Nat) : ∀ z ∈ stepN x y a k, z < 256 := by unfold stepN; split <;> exact upN_lt _ _ _ _
/-- Where one comes with the first j elements of a path. -/
def climbN (x : List Nat) (a : Int) (p : List (List Nat)) : Nat → List Nat
  | 0 => x
  | j + 1 => stepN (climbN x a p j) (p.getD j []) (a / 2 ^ j) j
theorem climbN_len {x : List Nat} (hx : x.length = 16) (a : Int) (p : List (List Nat)) (j : Nat) : (climbN x a p j).length = 16 := by
  cases j with
  | zero => exact hx
  | succ j => exact stepN_len _ _ _ _
theorem climbN_lt {x : List Nat} (hx : ∀ y ∈ x, y < 256) (a : Int) (p : List (List Nat)) (j : Nat) : ∀ y ∈ climbN x a p j, y < 256 := by
  cases j with
  | zero => exact hx
  | succ j => exact stepN_lt _ _ _ _
theorem half_next (a : Int) (j : Nat) : a / 2 ^ j / 2 = a / 2 ^ (j + 1) := by
  rw [Int.pow_succ, Int.ediv_ediv_of_nonneg (by exact Int.pow_nonneg (by decide))]
/-- From a leaf one climbs, by its path, to the root. -/
theorem climb_path (L : List (List Nat)) {h i : Nat} : ∀ j, j ≤ h → climbN (L.getD i []) i (pathN L i h) j = atN L j (i / 2 ^ j) := by
  intro j
  induction j with
  | zero => intro _; simp [climbN, atN]
  | succ j ih =>
    intro hj
    have hp : (pathN L i h).getD j [] = atN L j (sibN (i / 2 ^ j)) := by
      rw [List.getD_eq_getElem?_getD, List.getElem?_eq_getElem (by rw [pathN_len]; omega)]
      simp [pathN]
    have e : ((i : Int) / 2 ^ j) = ((i / 2 ^ j : Nat) : Int) := by simp
    have e2 : i / 2 ^ (j + 1) = i / 2 ^ j / 2 := by rw [Nat.pow_succ, Nat.div_div_eq_div_mul]
    rw [climbN, ih (by omega), hp, e, e2]
    generalize i / 2 ^ j = q
    unfold stepN sibN
    by_cases hq : q % 2 = 1
    · rw [if_neg (by omega), if_pos hq, atN, show (q : Int) / 2 = ((q / 2 : Nat) : Int) by omega, show 2 * (q / 2) = q - 1 by omega, show q - 1 + 1 = q by omega]
    · rw [if_pos (by omega), if_neg hq, atN, show (q : Int) / 2 = ((q / 2 : Nat) : Int) by omega, show 2 * (q / 2) = q by omega]
theorem climb_root (L : List (List Nat)) {h i : Nat} (hi : i < 2 ^ h) : climbN (L.getD i []) i (pathN L i h) h = atN L h 0 := by
  rw [climb_path L h (Nat.le_refl _), Nat.div_eq_of_lt hi]

/-! ### Numbers: the lowest bit, a half -/
theorem and_one_i64 (a : Int) : (BitVec.ofInt 64 a &&& BitVec.ofInt 64 1).toNat = (a % 2).toNat := by
  rw [BitVec.toNat_and, BitVec.toNat_ofInt, BitVec.toNat_ofInt]
  rw [show ((1 : Int) % ((2 ^ 64 : Nat) : Int)).toNat = 1 by decide, Nat.and_one_is_mod]
  omega
theorem xor_one_i64 {q : Nat} (h : q < 256) : (BitVec.ofInt 64 (q : Int) ^^^ BitVec.ofInt 64 1).toNat = sibN q := by
  have key : ∀ q : Fin 256, (BitVec.ofInt 64 (q.val : Int) ^^^ BitVec.ofInt 64 1).toNat = sibN q.val := by decide +kernel
  exact key ⟨q, h⟩
theorem fdiv_pow (a n : Nat) : (a : Int).fdiv (2 ^ n) = ((a / 2 ^ n : Nat) : Int) := by
  rw [Int.fdiv_eq_ediv_of_nonneg _ (by exact Int.pow_nonneg (by decide))]
  simp
theorem lvl_ok {L : List (List Nat)} (hL : Elems L) {n k : Nat} (hn : n = L.length) (h2 : ∃ h, n = 2 ^ h ∧ k ≤ h) : Elems (lvl L n k) := by
  intro x hx
  obtain ⟨i, hi, rfl⟩ := List.mem_map.1 hx
  obtain ⟨h, rfl, hk⟩ := h2
  refine atN_ok hL k i ?_
  have hi2 := List.mem_range.1 hi
  rw [← hn]
  rw [Nat.pow_div hk (by decide)] at hi2
  have h3 : (i + 1) * 2 ^ k ≤ 2 ^ (h - k) * 2 ^ k := Nat.mul_le_mul_right _ hi2
  rw [← Nat.pow_add, Nat.sub_add_cancel hk, Nat.add_mul, Nat.one_mul] at h3
  have h4 : 1 ≤ 2 ^ k := Nat.one_le_two_pow
  omega
theorem pairs_ok (R : List (List Nat)) (k j : Nat) : Elems (pairsN R k j) := by
  intro x hx
  obtain ⟨i, _, rfl⟩ := List.mem_map.1 hx
  exact ⟨upN_len _ _ _ _, upN_lt _ _ _ _⟩
/-- A level of which the first j elements are reckoned. -/
def partP (R : List (List Nat)) (k m j : Nat) : List (List Nat) := pairsN R k j ++ List.replicate (m - j) (List.replicate 16 0)
theorem partP_len (R : List (List Nat)) (k : Nat) {m j : Nat} (h : j ≤ m) : (partP R k m j).length = m := by
  rw [partP, List.length_append, pairsN_len, List.length_replicate]; omega
theorem partP_zero (R : List (List Nat)) (k m : Nat) : partP R k m 0 = List.replicate m (List.replicate 16 0) := by simp [partP, pairsN]
theorem partP_full (R : List (List Nat)) (k m : Nat) : partP R k m m = pairsN R k m := by simp [partP]
theorem partP_ok (R : List (List Nat)) (k m j : Nat) : Elems (partP R k m j) := (pairs_ok R k j).append (Elems.zeros _)
theorem partP_set (R : List (List Nat)) (k : Nat) {m j : Nat} (h : j < m) : (partP R k m j).set j (upN (R.getD (2 * j) []) (R.getD (2 * j + 1) []) ((k + 1 : Nat) : Int) (j : Int)) = partP R k m (j + 1) := by
  rw [partP, partP, pairsN_next, List.set_append_right _ _ (by rw [pairsN_len]; omega), pairsN_len, Nat.sub_self, show m - j = (m - (j + 1)) + 1 by omega, List.replicate_succ, List.set_cons_zero, List.append_assoc]
  rfl
theorem pathN_ok {L : List (List Nat)} (hL : Elems L) {h i j : Nat} (hn : L.length = 2 ^ h) (hi : i < L.length) (hj : j ≤ h) : Elems (pathN L i j) := by
  intro x hx
  obtain ⟨k, hk, rfl⟩ := List.mem_map.1 hx
  have hk2 := List.mem_range.1 hk
  have h1 : 2 ^ h = 2 ^ (h - k) * 2 ^ k := by rw [← Nat.pow_add, Nat.sub_add_cancel (by omega)]
  have h2 : i / 2 ^ k < 2 ^ (h - k) := by
    rw [Nat.div_lt_iff_lt_mul (Nat.two_pow_pos k), ← h1, ← hn]; exact hi
  have h3 : sibN (i / 2 ^ k) < 2 ^ (h - k) := by
    obtain ⟨m, hm⟩ : ∃ m, 2 ^ (h - k) = 2 * m := ⟨2 ^ (h - k - 1), by rw [← Nat.pow_succ']; congr 1; omega⟩
    rw [hm] at h2 ⊢
    exact sibN_lt h2
  refine atN_ok hL k _ ?_
  rw [hn, h1]
  exact Nat.mul_lt_mul_of_pos_right h3 (Nat.two_pow_pos k)
theorem sib_lt {h k i : Nat} (hk : k < h) (hi : i < 2 ^ h) : sibN (i / 2 ^ k) < 2 ^ h / 2 ^ k := by
  rw [Nat.pow_div (by omega) (by decide)]
  have h1 : 2 ^ h = 2 ^ (h - k) * 2 ^ k := by rw [← Nat.pow_add, Nat.sub_add_cancel (by omega)]
  have h2 : i / 2 ^ k < 2 ^ (h - k) := by
    rw [Nat.div_lt_iff_lt_mul (Nat.two_pow_pos k), ← h1]; exact hi
  obtain ⟨m, hm⟩ : ∃ m, 2 ^ (h - k) = 2 * m := ⟨2 ^ (h - k - 1), by rw [← Nat.pow_succ']; congr 1; omega⟩
  rw [hm] at h2 ⊢
  exact sibN_lt h2
theorem goodN_le {n : Nat} (h : goodN n = true) : n ≤ 256 := by
  simp only [goodN, Bool.or_eq_true, beq_iff_eq] at h
  omega
/-- The first j elements of a path, the others zero. -/
def partR (L : List (List Nat)) (i m j : Nat) : List (List Nat) := pathN L i j ++ List.replicate (m - j) (List.replicate 16 0)
theorem partR_len (L : List (List Nat)) (i : Nat) {m j : Nat} (h : j ≤ m) : (partR L i m j).length = m := by
  rw [partR, List.length_append, pathN_len, List.length_replicate]; omega
theorem partR_zero (L : List (List Nat)) (i m : Nat) : partR L i m 0 = List.replicate m (List.replicate 16 0) := by simp [partR, pathN]
theorem partR_full (L : List (List Nat)) (i m : Nat) : partR L i m m = pathN L i m := by simp [partR]
theorem partR_set (L : List (List Nat)) (i : Nat) {m j : Nat} (h : j < m) : (partR L i m j).set j (atN L j (sibN (i / 2 ^ j))) = partR L i m (j + 1) := by
  rw [partR, partR, pathN_next, List.set_append_right _ _ (by rw [pathN_len]; omega), pathN_len, Nat.sub_self, show m - j = (m - (j + 1)) + 1 by omega, List.replicate_succ, List.set_cons_zero, List.append_assoc]
  rfl

/-! ### An index out of any number; a byte turned -/
/-- An index out of any number. -/
theorem idx_some (a : Int) {n : Nat} (h : 0 < n) (hn : n ≤ 1000000000) : ∃ q : Nat, q < n ∧ wrap64 ((IntKind.u64.wrap a).tmod (n : Int)) = (q : Int) := by
  have e : IntKind.u64.wrap a = a % 18446744073709551616 := by simp [IntKind.wrap, IntKind.bits, IntKind.signed]
  have h0 : 0 ≤ IntKind.u64.wrap a := by rw [e]; omega
  generalize IntKind.u64.wrap a = u at h0
  rw [Int.tmod_eq_emod_of_nonneg h0]
  have h1 : 0 ≤ u % (n : Int) := Int.emod_nonneg _ (by omega)
  have h2 : u % (n : Int) < (n : Int) := Int.emod_lt_of_pos _ (by omega)
  generalize u % (n : Int) = r at h1 h2
  refine ⟨r.toNat, by omega, ?_⟩
  unfold wrap64
  omega
theorem bits_xor_u8 {b c : Nat} (hb : b < 256) (hc : c < 256) : bits .xor .u8 (b : Int) (c : Int) = ((b ^^^ c : Nat) : Int) := by
  show IntKind.u8.wrap ((BitVec.ofInt 8 (b : Int) ^^^ BitVec.ofInt 8 (c : Int)).toNat : Int) = _
  have h1 : (BitVec.ofInt 8 (b : Int) ^^^ BitVec.ofInt 8 (c : Int)).toNat = b ^^^ c := by
    rw [BitVec.toNat_xor, BitVec.toNat_ofInt, BitVec.toNat_ofInt]
    rw [show ((b : Int) % ((2 ^ 8 : Nat) : Int)).toNat = b by omega, show ((c : Int) % ((2 ^ 8 : Nat) : Int)).toNat = c by omega]
  have h2 : b ^^^ c < 2 ^ 8 := Nat.xor_lt_two_pow (by omega) (by omega)
  rw [h1]
  generalize b ^^^ c = n at h2
  have key : ∀ n : Fin 256, IntKind.u8.wrap (n.val : Int) = (n.val : Int) := by decide +kernel
  exact key ⟨n, h2⟩
theorem xor_lt_256 {b c : Nat} (hb : b < 256) (hc : c < 256) : b ^^^ c < 256 := by
  have h2 : b ^^^ c < 2 ^ 8 := Nat.xor_lt_two_pow (by omega) (by omega)
  exact h2
/-- The leaves with one byte of one of them turned. -/
def turnN (L : List (List Nat)) (q c : Nat) : List (List Nat) := L.set q ((L.getD q []).set 3 ((L.getD q []).getD 3 0 ^^^ c))
theorem turnN_len (L : List (List Nat)) (q c : Nat) : (turnN L q c).length = L.length := List.length_set
theorem turnN_zero {L : List (List Nat)} {q : Nat} (hL : Elems L) (hq : q < L.length) : turnN L q 0 = L := by
  have hx := (hL.getD hq).1
  unfold turnN
  rw [Nat.xor_zero]
  have h1 : (L.getD q []).set 3 ((L.getD q []).getD 3 0) = L.getD q [] := by
    generalize L.getD q [] = x at hx
    rw [List.getD_eq_getElem?_getD, List.getElem?_eq_getElem (by omega)]
    exact List.set_getElem_self _
  rw [h1, List.getD_eq_getElem?_getD, List.getElem?_eq_getElem hq]
  exact List.set_getElem_self _
end Go.Proofs.YtcjjhddppcmgoaaDoor
