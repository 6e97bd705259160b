/-
  The document's own numbers of layer 2: primes, products, roots.
-/
import Derived.Test.YtolnbifpnoghlaaDoorBase
namespace Go.Proofs.YtolnbifpnoghlaaDoor
open Go.RowKit

/-- x turned to the right by k. -/
def rotr (x k : Nat) : Nat := x / 2 ^ k ||| x * 2 ^ (32 - k) % 4294967296

theorem rotr_lt (x k : Nat) (hx : x < 4294967296) : rotr x k < 4294967296 := by
  unfold rotr
  have h1 : x / 2 ^ k < 2 ^ 32 := Nat.lt_of_le_of_lt (Nat.div_le_self _ _) hx
  have h2 : x * 2 ^ (32 - k) % 4294967296 < 2 ^ 32 := Nat.mod_lt _ (by decide)
  exact Nat.or_lt_two_pow h1 h2

theorem turn_or (x k : Nat) (hx : x < 4294967296) : bits BinOp.or IntKind.u32 ((x : Int) / 2 ^ k) ((x : Int) * 2 ^ (32 - k) % 4294967296) = ((rotr x k : Nat) : Int) := by
  have h1 : x / 2 ^ k < 4294967296 := Nat.lt_of_le_of_lt (Nat.div_le_self _ _) hx
  have h2 : x * 2 ^ (32 - k) % 4294967296 < 4294967296 := Nat.mod_lt _ (by decide)
  have := u32_or_nat (x / 2 ^ k) (x * 2 ^ (32 - k) % 4294967296) h1 h2
  unfold rotr
  rw [← this]
  simp

theorem turn_any (x k : Nat) (w : World) (hx : x < 4294967296) (hk1 : 1 ≤ k) (hk : k ≤ 31) :
    Calls Tryd.prog 28 #[.int .u32 x, .int .u32 k] w fun e w' => e = .returned (.int .u32 (rotr x k)) ∧ w = w' := by
  have h := turn_or x k hx
  go_enter Tryd.func28, Tryd.ntmps28
  go_wp2_with fail
  go_ret
  exact ⟨rfl, rfl⟩

theorem mul_parts (a b : Nat) : a * b = a / 4294967296 * (b / 4294967296) * 18446744073709551616 + (a / 4294967296 * (b % 4294967296) + a % 4294967296 * (b / 4294967296)) * 4294967296 + a % 4294967296 * (b % 4294967296) := by
  have ha := Nat.div_add_mod a 4294967296
  have hb := Nat.div_add_mod b 4294967296
  generalize a / 4294967296 = ah at *
  generalize a % 4294967296 = al at *
  generalize b / 4294967296 = bh at *
  generalize b % 4294967296 = bl at *
  subst ha hb
  grind

theorem times_parts (a b : Nat) : ∃ p0 p1 p2 p3 : Nat, (a : Int) % 4294967296 * ((b : Int) % 4294967296) = p0 ∧ (a : Int) / 4294967296 * ((b : Int) % 4294967296) = p1 ∧ (a : Int) % 4294967296 * ((b : Int) / 4294967296) = p2 ∧
    (a : Int) / 4294967296 * ((b : Int) / 4294967296) = p3 ∧ a * b = p3 * 18446744073709551616 + (p1 + p2) * 4294967296 + p0 :=
  ⟨a % 4294967296 * (b % 4294967296), a / 4294967296 * (b % 4294967296), a % 4294967296 * (b / 4294967296), a / 4294967296 * (b / 4294967296), by simp, by simp, by simp, by simp, mul_parts a b⟩

theorem le_parts {x y : Nat} (hx : x < 4294967296) (hy : y < 4294967296) : x * y ≤ 18446744065119617025 := by
  have : x * y ≤ 4294967295 * 4294967295 := Nat.mul_le_mul (by omega) (by omega)
  omega

theorem times_le (a b : Nat) (ha : a < 18446744073709551616) (hb : b < 18446744073709551616) :
    (a : Int) % 4294967296 * ((b : Int) % 4294967296) ≤ 18446744065119617025 ∧ (a : Int) / 4294967296 * ((b : Int) % 4294967296) ≤ 18446744065119617025 ∧
    (a : Int) % 4294967296 * ((b : Int) / 4294967296) ≤ 18446744065119617025 ∧ (a : Int) / 4294967296 * ((b : Int) / 4294967296) ≤ 18446744065119617025 := by
  have h0 := le_parts (x := a % 4294967296) (y := b % 4294967296) (by omega) (by omega)
  have h1 := le_parts (x := a / 4294967296) (y := b % 4294967296) (by omega) (by omega)
  have h2 := le_parts (x := a % 4294967296) (y := b / 4294967296) (by omega) (by omega)
  have h3 := le_parts (x := a / 4294967296) (y := b / 4294967296) (by omega) (by omega)
  refine ⟨?_, ?_, ?_, ?_⟩
  · have := Int.ofNat_le.2 h0; simpa using this
  · have := Int.ofNat_le.2 h1; simpa using this
  · have := Int.ofNat_le.2 h2; simpa using this
  · have := Int.ofNat_le.2 h3; simpa using this

theorem times_hi (a b : Nat) : (a : Int) / 4294967296 * ((b : Int) / 4294967296) + ((a : Int) / 4294967296 * ((b : Int) % 4294967296) + (a : Int) % 4294967296 * ((b : Int) % 4294967296) / 4294967296) / 4294967296 +
    ((a : Int) % 4294967296 * ((b : Int) / 4294967296) + ((a : Int) / 4294967296 * ((b : Int) % 4294967296) + (a : Int) % 4294967296 * ((b : Int) % 4294967296) / 4294967296) % 4294967296) / 4294967296 = ((a * b / 18446744073709551616 : Nat) : Int) := by
  obtain ⟨p0, p1, p2, p3, e0, e1, e2, e3, h⟩ := times_parts a b
  rw [e0, e1, e2, e3]
  generalize a * b = T at h ⊢
  omega

theorem times_lo (a b : Nat) : ((a : Int) % 4294967296 * ((b : Int) / 4294967296) + ((a : Int) / 4294967296 * ((b : Int) % 4294967296) + (a : Int) % 4294967296 * ((b : Int) % 4294967296) / 4294967296)) % 4294967296 * 4294967296 +
    (a : Int) % 4294967296 * ((b : Int) % 4294967296) % 4294967296 = ((a * b % 18446744073709551616 : Nat) : Int) := by
  obtain ⟨p0, p1, p2, p3, e0, e1, e2, e3, h⟩ := times_parts a b
  rw [e0, e1, e2]
  generalize a * b = T at h ⊢
  omega

theorem times_any (a b : Nat) (w : World) (ha : a < 18446744073709551616) (hb : b < 18446744073709551616) :
    Calls Tryd.prog 39 #[.int .u64 a, .int .u64 b] w fun e w' => e = .returned (.tuple #[.int .u64 ((a * b / 18446744073709551616 : Nat) : Int), .int .u64 ((a * b % 18446744073709551616 : Nat) : Int)]) ∧ w = w' := by
  obtain ⟨l0, l1, l2, l3⟩ := times_le a b ha hb
  obtain ⟨p0, p1, p2, p3, e0, e1, e2, e3, h⟩ := times_parts a b
  have g0 : 0 ≤ (a : Int) % 4294967296 * ((b : Int) % 4294967296) := by rw [e0]; omega
  have g1 : 0 ≤ (a : Int) / 4294967296 * ((b : Int) % 4294967296) := by rw [e1]; omega
  have g2 : 0 ≤ (a : Int) % 4294967296 * ((b : Int) / 4294967296) := by rw [e2]; omega
  have g3 : 0 ≤ (a : Int) / 4294967296 * ((b : Int) / 4294967296) := by rw [e3]; omega
  have HH := Lib.hid (times_hi a b)
  have HL := Lib.hid (times_lo a b)
  clear e0 e1 e2 e3 h
  go_enter Tryd.func39, Tryd.ntmps39
  go_wp2_with fail
  go_ret2
  rw [← HH.out, ← HL.out]
  exact ⟨rfl, rfl⟩

/-- The same, the halves by name. -/
theorem times_of (a b h l : Nat) (w : World) (ha : a < 18446744073709551616) (hb : b < 18446744073709551616) (e : a * b = h * 18446744073709551616 + l) (hl : l < 18446744073709551616) :
    Calls Tryd.prog 39 #[.int .u64 a, .int .u64 b] w fun e w' => e = .returned (.tuple #[.int .u64 h, .int .u64 l]) ∧ w = w' := by
  have c := times_any a b w ha hb
  rw [e, show (h * 18446744073709551616 + l) / 18446744073709551616 = h by omega, show (h * 18446744073709551616 + l) % 18446744073709551616 = l by omega] at c
  exact c

/-- Is y^2 not above p 2^64; is y^3 not above p 2^96? -/
def sqOk (p y : Nat) : Bool := decide (y * y / 18446744073709551616 < p) || (decide (y * y / 18446744073709551616 = p) && decide (y * y % 18446744073709551616 = 0))
def cbLow (y : Nat) : Nat := y * y / 18446744073709551616 * y + y * y % 18446744073709551616 * y / 18446744073709551616
def cbOk (p y : Nat) : Bool := decide (cbLow y / 4294967296 < p) || (decide (cbLow y / 4294967296 = p) && (decide (cbLow y % 4294967296 = 0) && decide (y * y % 18446744073709551616 * y % 18446744073709551616 = 0)))
def bitAt (j : Nat) : Nat := 68719476736 / 2 ^ j
def rootT (p : Nat) (cube : Bool) (y : Nat) : Bool := if cube then cbOk p y else sqOk p y
def rootX (p : Nat) (cube : Bool) : Nat → Nat
  | 0 => 0
  | j + 1 => if rootT p cube (rootX p cube j + bitAt j) then rootX p cube j + bitAt j else rootX p cube j
theorem rootX_yes {p : Nat} {cube : Bool} {j : Nat} (h : rootT p cube (rootX p cube j + bitAt j) = true) : rootX p cube (j + 1) = rootX p cube j + bitAt j := by rw [rootX, if_pos h]
theorem rootX_no {p : Nat} {cube : Bool} {j : Nat} (h : rootT p cube (rootX p cube j + bitAt j) = false) : rootX p cube (j + 1) = rootX p cube j := by rw [rootX, if_neg (by simp [h])]
def rootN (p : Nat) (cube : Bool) : Nat := rootX p cube 37 % 4294967296

theorem bitAt_next (j : Nat) : bitAt j / 2 = bitAt (j + 1) := by
  unfold bitAt
  rw [Nat.div_div_eq_div_mul, Nat.pow_succ]
theorem bitAt_end : bitAt 37 = 0 := by decide
theorem bitAt_pos {j : Nat} (h : j < 37) : 1 ≤ bitAt j := by
  unfold bitAt
  have : 2 ^ j ≤ 2 ^ 36 := Nat.pow_le_pow_right (by decide) (by omega)
  have e : (2 : Nat) ^ 36 = 68719476736 := by decide
  rw [Nat.le_div_iff_mul_le (Nat.two_pow_pos j)]
  omega
theorem rootX_le (p : Nat) (cube : Bool) : ∀ j, j ≤ 37 → rootX p cube j + 2 * bitAt j ≤ 137438953472 := by
  intro j
  induction j with
  | zero => intro _; show 0 + 2 * bitAt 0 ≤ _; decide
  | succ j ih =>
    intro h
    have i := ih (by omega)
    have b := bitAt_next j
    have : 2 * bitAt (j + 1) ≤ bitAt j := by omega
    cases ht : rootT p cube (rootX p cube j + bitAt j) with
    | true => rw [rootX_yes ht]; omega
    | false => rw [rootX_no ht]; omega

theorem sq_le {y : Nat} (h : y ≤ 137438953472) : y * y ≤ 18889465931478580854784 := by
  have : y * y ≤ 137438953472 * 137438953472 := Nat.mul_le_mul h h
  omega

/-- The halves of a product, by name. -/
theorem halves (n : Nat) : ∃ h l, n = h * 18446744073709551616 + l ∧ l < 18446744073709551616 ∧ h = n / 18446744073709551616 ∧ l = n % 18446744073709551616 :=
  ⟨n / 18446744073709551616, n % 18446744073709551616, by omega, by omega, rfl, rfl⟩

set_option maxHeartbeats 1000000 in
set_option maxRecDepth 100000 in
theorem root_sq (p : Nat) (w : World) (hp : p < 1000) :
    Calls Tryd.prog 33 #[.int .u64 p, .bool false] w fun e w' => e = .returned (.int .u32 (rootN p false)) ∧ w = w' := by
  go_enter Tryd.func33, Tryd.ntmps33
  go_wp2_with fail
  go_loop [5, 6] (fun x b => ∃ j : Nat, j ≤ 37 ∧ x = .int .u64 (rootX p false j) ∧ b = .int .u64 (bitAt j)) (fun _ b => (intOf b).toNat)
  case atStart => exact ⟨0, by omega, rfl, rfl⟩
  case round =>
    obtain ⟨j, hj, rfl, rfl⟩ := hrel
    have hle := rootX_le p false j hj
    by_cases hlt : j < 37
    · have hb := bitAt_pos hlt
      have HN := Lib.hid (bitAt_next j)
      have hn2 : bitAt (j + 1) * 2 ≤ bitAt j := by have := bitAt_next j; omega
      have hs := sq_le (y := rootX p false j + bitAt j) (by omega)
      obtain ⟨h, l, e, hl, eh, el⟩ := halves ((rootX p false j + bitAt j) * (rootX p false j + bitAt j))
      have HT := Lib.hid (show rootT p false (rootX p false j + bitAt j) = (decide (h < p) || (decide (h = p) && decide (l = 0))) by rw [eh, el]; rfl)
      have HE := Lib.hid e
      have hh : h ≤ 1024 := by omega
      have HY := Lib.hid (@rootX_yes p false j)
      have HNo := Lib.hid (@rootX_no p false j)
      clear e eh el hs
      generalize hx : rootX p false j = x at *
      generalize hbb : bitAt j = b at *
      have HX := Lib.hid hx
      clear hx hbb
      go_wp2_with fail
      refine (times_of (x + b) (x + b) h l _ (by omega) (by omega) (by have := HE.out; exact this) hl).mono ?_
      rintro e w' ⟨rfl, rfl⟩
      rcases Nat.lt_trichotomy h p with h1 | h1 | h1
      · have HR := Lib.hid (HY.out (by rw [HT.out]; simp [h1]))
        go_wp2_with fail
        exact ⟨⟨j + 1, by omega, by rw [HR.out]; go_num, by rw [← HN.out]; go_num⟩, by simp [intOf]; omega⟩
      · subst h1
        by_cases h2 : l = 0
        · subst h2
          have HR := Lib.hid (HY.out (by rw [HT.out]; simp))
          go_wp2_with fail
          exact ⟨⟨j + 1, by omega, by rw [HR.out]; go_num, by rw [← HN.out]; go_num⟩, by simp [intOf]; omega⟩
        · have HR := Lib.hid (HNo.out (by rw [HT.out]; simp [h2]))
          have hz : ((l : Int) == 0) = false := by simp; omega
          clear h2
          go_wp2_with fail
          exact ⟨⟨j + 1, by omega, by rw [HR.out], by rw [← HN.out]; go_num⟩, by simp [intOf]; omega⟩
      · have HR := Lib.hid (HNo.out (by rw [HT.out]; simp; omega))
        have hz : ((h : Int) == (p : Int)) = false := by simp; omega
        have hz2 : decide (h < p) = false := by simp; omega
        go_wp2_with fail
        exact ⟨⟨j + 1, by omega, by rw [HR.out], by rw [← HN.out]; go_num⟩, by simp [intOf]; omega⟩
    · obtain rfl : j = 37 := by omega
      rw [bitAt_end]
      go_wp2_with fail
      go_ret
      exact ⟨by unfold rootN; go_num, rfl⟩

theorem mul_div_lt {l y : Nat} (hl : l < 18446744073709551616) : l * y / 18446744073709551616 ≤ y := by
  rcases Nat.eq_zero_or_pos y with rfl | hy
  · simp
  · have : l * y < 18446744073709551616 * y := Nat.mul_lt_mul_of_pos_right hl hy
    omega

theorem mul_small {h y : Nat} (hh : h ≤ 1024) (hy : y ≤ 137438953472) : h * y ≤ 140737488355328 := by
  have : h * y ≤ 1024 * 137438953472 := Nat.mul_le_mul hh hy
  omega

set_option maxHeartbeats 2000000 in
set_option maxRecDepth 100000 in
theorem root_cb (p : Nat) (w : World) (hp : p < 1000) :
    Calls Tryd.prog 33 #[.int .u64 p, .bool true] w fun e w' => e = .returned (.int .u32 (rootN p true)) ∧ w = w' := by
  go_enter Tryd.func33, Tryd.ntmps33
  go_wp2_with fail
  go_loop [5, 6] (fun x b => ∃ j : Nat, j ≤ 37 ∧ x = .int .u64 (rootX p true j) ∧ b = .int .u64 (bitAt j)) (fun _ b => (intOf b).toNat)
  case atStart => exact ⟨0, by omega, rfl, rfl⟩
  case round =>
    obtain ⟨j, hj, rfl, rfl⟩ := hrel
    have hle := rootX_le p true j hj
    by_cases hlt : j < 37
    · have hb := bitAt_pos hlt
      have HN := Lib.hid (bitAt_next j)
      have hn2 : bitAt (j + 1) * 2 ≤ bitAt j := by have := bitAt_next j; omega
      have hs := sq_le (y := rootX p true j + bitAt j) (by omega)
      obtain ⟨h, l, e, hl, eh, el⟩ := halves ((rootX p true j + bitAt j) * (rootX p true j + bitAt j))
      have hh : h ≤ 1024 := by omega
      have hd := mul_small (y := rootX p true j + bitAt j) hh (by omega)
      have ha := mul_div_lt (l := l) (y := rootX p true j + bitAt j) hl
      obtain ⟨a, b2, e2, hb2, ea, eb⟩ := halves (l * (rootX p true j + bitAt j))
      obtain ⟨d, ed⟩ : ∃ d, d = h * (rootX p true j + bitAt j) := ⟨_, rfl⟩
      have HT := Lib.hid (show rootT p true (rootX p true j + bitAt j) = (decide ((d + a) / 4294967296 < p) || (decide ((d + a) / 4294967296 = p) && (decide ((d + a) % 4294967296 = 0) && decide (b2 = 0)))) by
        rw [ed, ea, eb, eh, el]; rfl)
      have HE := Lib.hid e
      have HE2 := Lib.hid e2
      have HD := Lib.hid ed
      rw [← ed] at hd
      rw [← ea] at ha
      have HY := Lib.hid (@rootX_yes p true j)
      have HNo := Lib.hid (@rootX_no p true j)
      clear e eh el hs e2 ea eb ed
      generalize hx : rootX p true j = x at *
      generalize hbb : bitAt j = b at *
      have HX := Lib.hid hx
      clear hx hbb
      go_wp2_with fail
      refine (times_of (x + b) (x + b) h l _ (by omega) (by omega) (by have := HE.out; exact this) hl).mono ?_
      rintro e w' ⟨rfl, rfl⟩
      go_wp2_with fail
      refine (times_of l (x + b) a b2 _ hl (by omega) (by have := HE2.out; exact this) hb2).mono ?_
      rintro e w' ⟨rfl, rfl⟩
      go_wp2_with fail
      refine (times_of h (x + b) 0 d _ (by omega) (by omega) (by have := HD.out; omega) (by omega)).mono ?_
      rintro e w' ⟨rfl, rfl⟩
      rcases Nat.lt_trichotomy ((d + a) / 4294967296) p with h1 | h1 | h1
      · have HR := Lib.hid (HY.out (by rw [HT.out]; simp [h1]))
        have t1 : decide (((d : Int) + (a : Int)) / 4294967296 < (p : Int)) = true := by simp; omega
        go_wp2_with fail
        exact ⟨⟨j + 1, by omega, by rw [HR.out]; go_num, by rw [← HN.out]; go_num⟩, by simp [intOf]; omega⟩
      · have t1 : decide (((d : Int) + (a : Int)) / 4294967296 < (p : Int)) = false := by simp; omega
        have t2 : (((d : Int) + (a : Int)) / 4294967296 == (p : Int)) = true := by simp; omega
        by_cases h2 : (d + a) % 4294967296 = 0
        · have t3 : (((d : Int) + (a : Int)) % 4294967296 == 0) = true := by simp; omega
          by_cases h3 : b2 = 0
          · have HR := Lib.hid (HY.out (by rw [HT.out]; simp [h1, h2, h3]))
            subst h3
            have HK := Lib.hid h1
            have HK2 := Lib.hid h2
            clear h1 h2
            go_wp2_with fail
            exact ⟨⟨j + 1, by omega, by rw [HR.out]; go_num, by rw [← HN.out]; go_num⟩, by simp [intOf]; omega⟩
          · have HR := Lib.hid (HNo.out (by rw [HT.out]; simp [h1, h2, h3]))
            have t4 : ((b2 : Int) == 0) = false := by simp; omega
            clear h1 h2 h3
            go_wp2_with fail
            exact ⟨⟨j + 1, by omega, by rw [HR.out], by rw [← HN.out]; go_num⟩, by simp [intOf]; omega⟩
        · have HR := Lib.hid (HNo.out (by rw [HT.out]; simp [h1, h2]))
          have t3 : (((d : Int) + (a : Int)) % 4294967296 == 0) = false := by simp; omega
          clear h1 h2
          go_wp2_with fail
          exact ⟨⟨j + 1, by omega, by rw [HR.out], by rw [← HN.out]; go_num⟩, by simp [intOf]; omega⟩
      · have HR := Lib.hid (HNo.out (by rw [HT.out]; simp; omega))
        have t1 : decide (((d : Int) + (a : Int)) / 4294967296 < (p : Int)) = false := by simp; omega
        have t2 : (((d : Int) + (a : Int)) / 4294967296 == (p : Int)) = false := by simp; omega
        go_wp2_with fail
        exact ⟨⟨j + 1, by omega, by rw [HR.out], by rw [← HN.out]; go_num⟩, by simp [intOf]; omega⟩
    · obtain rfl : j = 37 := by omega
      rw [bitAt_end]
      go_wp2_with fail
      go_ret
      exact ⟨by unfold rootN; go_num, rfl⟩
end Go.Proofs.YtolnbifpnoghlaaDoor
