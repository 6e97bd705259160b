/-
  The document's own numbers of layer 2: primes, products, roots.
-/
import Derived.Test.YtjgjgmjdoihmiaaDoorBase
namespace Go.Proofs.YtjgjgmjdoihmiaaDoor
open Go.RowKit

/-- x turned to the right by k. -/
def rotr (x k : Nat) : Nat := x / 2 ^ k ||| x * 2 ^ (32 - k) % 4294967296

theorem rotr_lt (x k : Nat) (hx : x < 4294967296) : rotr x k < 4294967296 := by
  unfold rotr
  have h1 : x / 2 ^ k < 2 ^ 32 := Nat.lt_of_le_of_lt (Nat.div_le_self _ _) hx
  have h2 : x * 2 ^ (32 - k) % 4294967296 < 2 ^ 32 := Nat.mod_lt _ (by decide)
  exact Nat.or_lt_two_pow h1 h2

theorem turn_or (x k : Nat) (hx : x < 4294967296) : bits BinOp.or IntKind.u32 ((x : Int) / 2 ^ k) ((x : Int) * 2 ^ (32 - k) % 4294967296) = ((rotr x k : Nat) : Int) := by
  have h1 : x / 2 ^ k < 4294967296 := Nat.lt_of_le_of_lt (Nat.div_le_self _ _) hx
  have h2 : x * 2 ^ (32 - k) % 4294967296 < 4294967296 := Nat.mod_lt _ (by decide)
  have := u32_or_nat (x / 2 ^ k) (x * 2 ^ (32 - k) % 4294967296) h1 h2
  unfold rotr
  rw [← this]
  simp

theorem turn_any (x k : Nat) (w : World) (hx : x < 4294967296) (hk1 : 1 ≤ k) (hk : k ≤ 31) :
    Calls Tryd.prog 28 #[.int .u32 x, .int .u32 k] w fun e w' => e = .returned (.int .u32 (rotr x k)) ∧ w = w' := by
  have h := turn_or x k hx
  go_enter Tryd.func28, Tryd.ntmps28
  go_wp2_with fail
  go_ret
  exact ⟨rfl, rfl⟩

theorem mul_parts (a b : Nat) : a * b = a / 4294967296 * (b / 4294967296) * 18446744073709551616 + (a / 4294967296 * (b % 4294967296) + a % 4294967296 * (b / 4294967296)) * 4294967296 + a % 4294967296 * (b % 4294967296) := by
  have ha := Nat.div_add_mod a 4294967296
  have hb := Nat.div_add_mod b 4294967296
  generalize a / 4294967296 = ah at *
  generalize a % 4294967296 = al at *
  generalize b / 4294967296 = bh at *
  generalize b % 4294967296 = bl at *
  subst ha hb
  grind

theorem times_parts (a b : Nat) : ∃ p0 p1 p2 p3 : Nat, (a : Int) % 4294967296 * ((b : Int) % 4294967296) = p0 ∧ (a : Int) / 4294967296 * ((b : Int) % 4294967296) = p1 ∧ (a : Int) % 4294967296 * ((b : Int) / 4294967296) = p2 ∧
    (a : Int) / 4294967296 * ((b : Int) / 4294967296) = p3 ∧ a * b = p3 * 18446744073709551616 + (p1 + p2) * 4294967296 + p0 :=
  ⟨a % 4294967296 * (b % 4294967296), a / 4294967296 * (b % 4294967296), a % 4294967296 * (b / 4294967296), a / 4294967296 * (b / 4294967296), by simp, by simp, by simp, by simp, mul_parts a b⟩

theorem le_parts {x y : Nat} (hx : x < 4294967296) (hy : y < 4294967296) : x * y ≤ 18446744065119617025 := by
  have : x * y ≤ 4294967295 * 4294967295 := Nat.mul_le_mul (by omega) (by omega)
  omega

theorem times_le (a b : Nat) (ha : a < 18446744073709551616) (hb : b < 18446744073709551616) :
    (a : Int) % 4294967296 * ((b : Int) % 4294967296) ≤ 18446744065119617025 ∧ (a : Int) / 4294967296 * ((b : Int) % 4294967296) ≤ 18446744065119617025 ∧
    (a : Int) % 4294967296 * ((b : Int) / 4294967296) ≤ 18446744065119617025 ∧ (a : Int) / 4294967296 * ((b : Int) / 4294967296) ≤ 18446744065119617025 := by
  have h0 := le_parts (x := a % 4294967296) (y := b % 4294967296) (by omega) (by omega)
  have h1 := le_parts (x := a / 4294967296) (y := b % 4294967296) (by omega) (by omega)
  have h2 := le_parts (x := a % 4294967296) (y := b / 4294967296) (by omega) (by omega)
  have h3 := le_parts (x := a / 4294967296) (y := b / 4294967296) (by omega) (by omega)
  refine ⟨?_, ?_, ?_, ?_⟩
  · have := Int.ofNat_le.2 h0; simpa using this
  · have := Int.ofNat_le.2 h1; simpa using this
  · have := Int.ofNat_le.2 h2; simpa using this
  · have := Int.ofNat_le.2 h3; simpa using this

theorem times_hi (a b : Nat) : (a : Int) / 4294967296 * ((b : Int) / 4294967296) + ((a : Int) / 4294967296 * ((b : Int) % 4294967296) + (a : Int) % 4294967296 * ((b : Int) % 4294967296) / 4294967296) / 4294967296 +
    ((a : Int) % 4294967296 * ((b : Int) / 4294967296) + ((a : Int) / 4294967296 * ((b : Int) % 4294967296) + (a : Int) % 4294967296 * ((b : Int) % 4294967296) / 4294967296) % 4294967296) / 4294967296 = ((a * b / 18446744073709551616 : Nat) : Int) := by
  obtain ⟨p0, p1, p2, p3, e0, e1, e2, e3, h⟩ := times_parts a b
  rw [e0, e1, e2, e3]
  generalize a * b = T at h ⊢
  omega

theorem times_lo (a b : Nat) : ((a : Int) % 4294967296 * ((b : Int) / 4294967296) + ((a : Int) / 4294967296 * ((b : Int) % 4294967296) + (a : Int) % 4294967296 * ((b : Int) % 4294967296) / 4294967296)) % 4294967296 * 4294967296 +
    (a : Int) % 4294967296 * ((b : Int) % 4294967296) % 4294967296 = ((a * b % 18446744073709551616 : Nat) : Int) := by
  obtain ⟨p0, p1, p2, p3, e0, e1, e2, e3, h⟩ := times_parts a b
  rw [e0, e1, e2]
  generalize a * b = T at h ⊢
  omega

/-- Is y^2 not above p 2^64; is y^3 not above p 2^96? -/
def sqOk (p y : Nat) : Bool := decide (y * y / 18446744073709551616 < p) || (decide (y * y / 18446744073709551616 = p) && decide (y * y % 18446744073709551616 = 0))
def cbLow (y : Nat) : Nat := y * y / 18446744073709551616 * y + y * y % 18446744073709551616 * y / 18446744073709551616
def cbOk (p y : Nat) : Bool := decide (cbLow y / 4294967296 < p) || (decide (cbLow y / 4294967296 = p) && (decide (cbLow y % 4294967296 = 0) && decide (y * y % 18446744073709551616 * y % 18446744073709551616 = 0)))
def bitAt (j : Nat) : Nat := 68719476736 / 2 ^ j
def rootT (p : Nat) (cube : Bool) (y : Nat) : Bool := if cube then cbOk p y else sqOk p y
def rootX (p : Nat) (cube : Bool) : Nat → Nat
  | 0 => 0
  | j + 1 => if rootT p cube (rootX p cube j + bitAt j) then rootX p cube j + bitAt j else rootX p cube j
theorem rootX_yes {p : Nat} {cube : Bool} {j : Nat} (h : rootT p cube (rootX p cube j + bitAt j) = true) : rootX p cube (j + 1) = rootX p cube j + bitAt j := by rw [rootX, if_pos h]
theorem rootX_no {p : Nat} {cube : Bool} {j : Nat} (h : rootT p cube (rootX p cube j + bitAt j) = false) : rootX p cube (j + 1) = rootX p cube j := by rw [rootX, if_neg (by simp [h])]
def rootN (p : Nat) (cube : Bool) : Nat := rootX p cube 37 % 4294967296

theorem bitAt_next (j : Nat) : bitAt j / 2 = bitAt (j + 1) := by
  unfold bitAt
  rw [Nat.div_div_eq_div_mul, Nat.pow_succ]
theorem bitAt_end : bitAt 37 = 0 := by decide
theorem bitAt_pos {j : Nat} (h : j < 37) : 1 ≤ bitAt j := by
  unfold bitAt
  have : 2 ^ j ≤ 2 ^ 36 := Nat.pow_le_pow_right (by decide) (by omega)
  have e : (2 : Nat) ^ 36 = 68719476736 := by decide
  rw [Nat.le_div_iff_mul_le (Nat.two_pow_pos j)]
  omega
theorem rootX_le (p : Nat) (cube : Bool) : ∀ j, j ≤ 37 → rootX p cube j + 2 * bitAt j ≤ 137438953472 := by
  intro j
  induction j with
  | zero => intro _; show 0 + 2 * bitAt 0 ≤ _; decide
  | succ j ih =>
    intro h
    have i := ih (by omega)
    have b := bitAt_next j
    have : 2 * bitAt (j + 1) ≤ bitAt j := by omega
    cases ht : rootT p cube (rootX p cube j + bitAt j) with
    | true => rw [rootX_yes ht]; omega
    | false => rw [rootX_no ht]; omega

theorem sq_le {y : Nat} (h : y ≤ 137438953472) : y * y ≤ 18889465931478580854784 := by
  have : y * y ≤ 137438953472 * 137438953472 := Nat.mul_le_mul h h
  omega

/-- The halves of a product, by name. -/
theorem halves (n : Nat) : ∃ h l, n = h * 18446744073709551616 + l ∧ l < 18446744073709551616 ∧ h = n / 18446744073709551616 ∧ l = n % 18446744073709551616 :=
  ⟨n / 18446744073709551616, n % 18446744073709551616, by omega, by omega, rfl, rfl⟩

theorem mul_div_lt {l y : Nat} (hl : l < 18446744073709551616) : l * y / 18446744073709551616 ≤ y := by
  rcases Nat.eq_zero_or_pos y with rfl | hy
  · simp
  · have : l * y < 18446744073709551616 * y := Nat.mul_lt_mul_of_pos_right hl hy
    omega

theorem mul_small {h y : Nat} (hh : h ≤ 1024) (hy : y ≤ 137438953472) : h * y ≤ 140737488355328 := by
  have : h * y ≤ 1024 * 137438953472 := Nat.mul_le_mul hh hy
  omega

end Go.Proofs.YtjgjgmjdoihmiaaDoor
