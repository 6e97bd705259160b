/-
  The document's numbers of layer 2 as mathematics; rows of numbers; digests as mathematics.
-/
import Derived.Test.YthgfpojfnhkckaaDoorGen
/-! The document's own numbers of layer 2: primes, products, roots. -/
namespace Go.Proofs.YthgfpojfnhkckaaDoor
open Go.RowKit

/-- x turned to the right by k. -/
def rotr (x k : Nat) : Nat := x / 2 ^ k ||| x * 2 ^ (32 - k) % 4294967296

theorem rotr_lt (x k : Nat) (hx : x < 4294967296) : rotr x k < 4294967296 := by
  unfold rotr
  have h1 : x / 2 ^ k < 2 ^ 32 := Nat.lt_of_le_of_lt (Nat.div_le_self _ _) hx
  have h2 : x * 2 ^ (32 - k) % 4294967296 < 2 ^ 32 := Nat.mod_lt _ (by decide)
  exact Nat.or_lt_two_pow h1 h2

theorem turn_or (x k : Nat) (hx : x < 4294967296) : bits BinOp.or IntKind.u32 ((x : Int) / 2 ^ k) ((x : Int) * 2 ^ (32 - k) % 4294967296) = ((rotr x k : Nat) : Int) := by
  have h1 : x / 2 ^ k < 4294967296 := Nat.lt_of_le_of_lt (Nat.div_le_self _ _) hx
  have h2 : x * 2 ^ (32 - k) % 4294967296 < 4294967296 := Nat.mod_lt _ (by decide)
  have := u32_or_nat (x / 2 ^ k) (x * 2 ^ (32 - k) % 4294967296) h1 h2
  unfold rotr
  rw [← this]
  simp

theorem turn_any (x k : Nat) (w : World) (hx : x < 4294967296) (hk1 : 1 ≤ k) (hk : k ≤ 31) :
    Calls Tryd.prog 44 #[.int .u32 x, .int .u32 k] w fun e w' => e = .returned (.int .u32 (rotr x k)) ∧ w = w' := by
  have h := turn_or x k hx
  go_enter Tryd.func44, Tryd.ntmps44
  go_wp2_with fail
  go_ret
  exact ⟨rfl, rfl⟩

theorem mul_parts (a b : Nat) : a * b = a / 4294967296 * (b / 4294967296) * 18446744073709551616 + (a / 4294967296 * (b % 4294967296) + a % 4294967296 * (b / 4294967296)) * 4294967296 + a % 4294967296 * (b % 4294967296) := by
  have ha := Nat.div_add_mod a 4294967296
  have hb := Nat.div_add_mod b 4294967296
  generalize a / 4294967296 = ah at *
  generalize a % 4294967296 = al at *
  generalize b / 4294967296 = bh at *
  generalize b % 4294967296 = bl at *
  subst ha hb
  grind

theorem times_parts (a b : Nat) : ∃ p0 p1 p2 p3 : Nat, (a : Int) % 4294967296 * ((b : Int) % 4294967296) = p0 ∧ (a : Int) / 4294967296 * ((b : Int) % 4294967296) = p1 ∧ (a : Int) % 4294967296 * ((b : Int) / 4294967296) = p2 ∧
    (a : Int) / 4294967296 * ((b : Int) / 4294967296) = p3 ∧ a * b = p3 * 18446744073709551616 + (p1 + p2) * 4294967296 + p0 :=
  ⟨a % 4294967296 * (b % 4294967296), a / 4294967296 * (b % 4294967296), a % 4294967296 * (b / 4294967296), a / 4294967296 * (b / 4294967296), by simp, by simp, by simp, by simp, mul_parts a b⟩

theorem le_parts {x y : Nat} (hx : x < 4294967296) (hy : y < 4294967296) : x * y ≤ 18446744065119617025 := by
  have : x * y ≤ 4294967295 * 4294967295 := Nat.mul_le_mul (by omega) (by omega)
  omega

theorem times_le (a b : Nat) (ha : a < 18446744073709551616) (hb : b < 18446744073709551616) :
    (a : Int) % 4294967296 * ((b : Int) % 4294967296) ≤ 18446744065119617025 ∧ (a : Int) / 4294967296 * ((b : Int) % 4294967296) ≤ 18446744065119617025 ∧
    (a : Int) % 4294967296 * ((b : Int) / 4294967296) ≤ 18446744065119617025 ∧ (a : Int) / 4294967296 * ((b : Int) / 4294967296) ≤ 18446744065119617025 := by
  have h0 := le_parts (x := a % 4294967296) (y := b % 4294967296) (by omega) (by omega)
  have h1 := le_parts (x := a / 4294967296) (y := b % 4294967296) (by omega) (by omega)
  have h2 := le_parts (x := a % 4294967296) (y := b / 4294967296) (by omega) (by omega)
  have h3 := le_parts (x := a / 4294967296) (y := b / 4294967296) (by omega) (by omega)
  refine ⟨?_, ?_, ?_, ?_⟩
  · have := Int.ofNat_le.2 h0; simpa using this
  · have := Int.ofNat_le.2 h1; simpa using this
  · have := Int.ofNat_le.2 h2; simpa using this
  · have := Int.ofNat_le.2 h3; simpa using this

theorem times_hi (a b : Nat) : (a : Int) / 4294967296 * ((b : Int) / 4294967296) + ((a : Int) / 4294967296 * ((b : Int) % 4294967296) + (a : Int) % 4294967296 * ((b : Int) % 4294967296) / 4294967296) / 4294967296 +
    ((a : Int) % 4294967296 * ((b : Int) / 4294967296) + ((a : Int) / 4294967296 * ((b : Int) % 4294967296) + (a : Int) % 4294967296 * ((b : Int) % 4294967296) / 4294967296) % 4294967296) / 4294967296 = ((a * b / 18446744073709551616 : Nat) : Int) := by
  obtain ⟨p0, p1, p2, p3, e0, e1, e2, e3, h⟩ := times_parts a b
  rw [e0, e1, e2, e3]
  generalize a * b = T at h ⊢
  omega

theorem times_lo (a b : Nat) : ((a : Int) % 4294967296 * ((b : Int) / 4294967296) + ((a : Int) / 4294967296 * ((b : Int) % 4294967296) + (a : Int) % 4294967296 * ((b : Int) % 4294967296) / 4294967296)) % 4294967296 * 4294967296 +
    (a : Int) % 4294967296 * ((b : Int) % 4294967296) % 4294967296 = ((a * b % 18446744073709551616 : Nat) : Int) := by
  obtain ⟨p0, p1, p2, p3, e0, e1, e2, e3, h⟩ := times_parts a b
  rw [e0, e1, e2]
  generalize a * b = T at h ⊢
  omega

/-- Is y^2 not above p 2^64; is y^3 not above p 2^96? -/
def sqOk (p y : Nat) : Bool := decide (y * y / 18446744073709551616 < p) || (decide (y * y / 18446744073709551616 = p) && decide (y * y % 18446744073709551616 = 0))
def cbLow (y : Nat) : Nat := y * y / 18446744073709551616 * y + y * y % 18446744073709551616 * y / 18446744073709551616
def cbOk (p y : Nat) : Bool := decide (cbLow y / 4294967296 < p) || (decide (cbLow y / 4294967296 = p) && (decide (cbLow y % 4294967296 = 0) && decide (y * y % 18446744073709551616 * y % 18446744073709551616 = 0)))
def bitAt (j : Nat) : Nat := 68719476736 / 2 ^ j
def rootT (p : Nat) (cube : Bool) (y : Nat) : Bool := if cube then cbOk p y else sqOk p y
def rootX (p : Nat) (cube : Bool) : Nat → Nat
  | 0 => 0
  | j + 1 => if rootT p cube (rootX p cube j + bitAt j) then rootX p cube j + bitAt j else rootX p cube j
theorem rootX_yes {p : Nat} {cube : Bool} {j : Nat} (h : rootT p cube (rootX p cube j + bitAt j) = true) : rootX p cube (j + 1) = rootX p cube j + bitAt j := by rw [rootX, if_pos h]
theorem rootX_no {p : Nat} {cube : Bool} {j : Nat} (h : rootT p cube (rootX p cube j + bitAt j) = false) : rootX p cube (j + 1) = rootX p cube j := by rw [rootX, if_neg (by simp [h])]
def rootN (p : Nat) (cube : Bool) : Nat := rootX p cube 37 % 4294967296

theorem bitAt_next (j : Nat) : bitAt j / 2 = bitAt (j + 1) := by
  unfold bitAt
  rw [Nat.div_div_eq_div_mul, Nat.pow_succ]
theorem bitAt_end : bitAt 37 = 0 := by decide
theorem bitAt_pos {j : Nat} (h : j < 37) : 1 ≤ bitAt j := by
  unfold bitAt
  have : 2 ^ j ≤ 2 ^ 36 := Nat.pow_le_pow_right (by decide) (by omega)
  have e : (2 : Nat) ^ 36 = 68719476736 := by decide
  rw [Nat.le_div_iff_mul_le (Nat.two_pow_pos j)]
  omega
theorem rootX_le (p : Nat) (cube : Bool) : ∀ j, j ≤ 37 → rootX p cube j + 2 * bitAt j ≤ 137438953472 := by
  intro j
  induction j with
  | zero => intro _; show 0 + 2 * bitAt 0 ≤ _; decide
  | succ j ih =>
    intro h
    have i := ih (by omega)
    have b := bitAt_next j
    have : 2 * bitAt (j + 1) ≤ bitAt j := by omega
    cases ht : rootT p cube (rootX p cube j + bitAt j) with
    | true => rw [rootX_yes ht]; omega
    | false => rw [rootX_no ht]; omega

theorem sq_le {y : Nat} (h : y ≤ 137438953472) : y * y ≤ 18889465931478580854784 := by
  have : y * y ≤ 137438953472 * 137438953472 := Nat.mul_le_mul h h
  omega

/-- The halves of a product, by name. -/
theorem halves (n : Nat) : ∃ h l, n = h * 18446744073709551616 + l ∧ l < 18446744073709551616 ∧ h = n / 18446744073709551616 ∧ l = n % 18446744073709551616 :=
  ⟨n / 18446744073709551616, n % 18446744073709551616, by omega, by omega, rfl, rfl⟩

theorem mul_div_lt {l y : Nat} (hl : l < 18446744073709551616) : l * y / 18446744073709551616 ≤ y := by
  rcases Nat.eq_zero_or_pos y with rfl | hy
  · simp
  · have : l * y < 18446744073709551616 * y := Nat.mul_lt_mul_of_pos_right hl hy
    omega

theorem mul_small {h y : Nat} (hh : h ≤ 1024) (hy : y ≤ 137438953472) : h * y ≤ 140737488355328 := by
  have : h * y ≤ 1024 * 137438953472 := Nat.mul_le_mul hh hy
  omega

end Go.Proofs.YthgfpojfnhkckaaDoor

/-! Slices of numbers of the call's own; the document's own primes, Numbers, known, NumbersAre. -/
namespace Go.Proofs.YthgfpojfnhkckaaDoor
open Go.RowKit

/-- The primes below i + 2. -/
def pst : Nat → List Nat
  | 0 => []
  | i + 1 => if (pst i).all (fun q => (i + 2) % q != 0) then pst i ++ [i + 2] else pst i
theorem pst_yes {i : Nat} (h : (pst i).all (fun q => (i + 2) % q != 0) = true) : pst (i + 1) = pst i ++ [i + 2] := by rw [pst, if_pos h]
theorem pst_no {i : Nat} (h : (pst i).all (fun q => (i + 2) % q != 0) = false) : pst (i + 1) = pst i := by rw [pst, if_neg (by simp [h])]
theorem pst_mem (i : Nat) : ∀ q ∈ pst i, 2 ≤ q ∧ q ≤ i + 1 := by
  induction i with
  | zero => intro q h; cases h
  | succ i ih =>
    intro q h
    cases ha : (pst i).all (fun q => (i + 2) % q != 0) with
    | true =>
      rw [pst_yes ha, List.mem_append] at h
      rcases h with h | h
      · have := ih q h; omega
      · simp at h; omega
    | false => rw [pst_no ha] at h; have := ih q h; omega
theorem pst_le (i : Nat) : (pst i).length ≤ (pst (i + 1)).length := by
  cases ha : (pst i).all (fun q => (i + 2) % q != 0) with
  | true => rw [pst_yes ha]; simp
  | false => rw [pst_no ha]; exact Nat.le_refl _
theorem pst_mono {i j : Nat} (h : i ≤ j) : (pst i).length ≤ (pst j).length := by
  induction j with
  | zero => have : i = 0 := by omega
            subst this; exact Nat.le_refl _
  | succ j ih =>
    by_cases e : i = j + 1
    · subst e; exact Nat.le_refl _
    · exact Nat.le_trans (ih (by omega)) (pst_le j)
theorem pst_309 : (pst 309).length = 63 := by decide +kernel
theorem pst_310 : (pst 310).length = 64 := by decide +kernel

theorem all_take (l : List Nat) (f : Nat → Bool) (j : Nat) (h : j < l.length) : (l.take (j + 1)).all f = ((l.take j).all f && f l[j]) := by
  rw [List.take_succ_eq_append_getElem h, List.all_append]; simp

theorem Tryd.infoU64 : (Tryd.prog.info? 66).map (fun i => (i.zero, i.size, i.bytes)) = some (some (.int .u64 0), 1, 8) := by kernel_rfl
theorem Tryd.infoU32 : (Tryd.prog.info? 64).map (fun i => (i.zero, i.size, i.bytes)) = some (some (.int .u32 0), 1, 4) := by kernel_rfl

end Go.Proofs.YthgfpojfnhkckaaDoor

/-! The document's own H and K: sought (Numbers), published (known), and the same (NumbersAre). -/
namespace Go.Proofs.YthgfpojfnhkckaaDoor
open Go.RowKit

def shaH : List Nat := [1779033703, 3144134277, 1013904242, 2773480762, 1359893119, 2600822924, 528734635, 1541459225]
def shaK : List Nat := [1116352408, 1899447441, 3049323471, 3921009573, 961987163, 1508970993, 2453635748, 2870763221, 3624381080, 310598401, 607225278, 1426881987, 1925078388, 2162078206, 2614888103, 3248222580, 3835390401, 4022224774, 264347078, 604807628, 770255983, 1249150122, 1555081692, 1996064986, 2554220882, 2821834349, 2952996808, 3210313671, 3336571891, 3584528711, 113926993, 338241895, 666307205, 773529912, 1294757372, 1396182291, 1695183700, 1986661051, 2177026350, 2456956037, 2730485921, 2820302411, 3259730800, 3345764771, 3516065817, 3600352804, 4094571909, 275423344, 430227734, 506948616, 659060556, 883997877, 958139571, 1322822218, 1537002063, 1747873779, 1955562222, 2024104815, 2227730452, 2361852424, 2428436474, 2756734187, 3204031479, 3329325298]

theorem shaH_roots : ((pst 310).take 8).map (fun p => rootN p false) = shaH := by decide +kernel
theorem shaK_roots : (pst 310).map (fun p => rootN p true) = shaK := by decide +kernel
theorem shaH_len : shaH.length = 8 := by decide
theorem shaK_len : shaK.length = 64 := by decide
theorem shaH_lt : ∀ x ∈ shaH, x < 4294967296 := by decide
theorem shaK_lt : ∀ x ∈ shaK, x < 4294967296 := by decide

set_option maxHeartbeats 1000000 in
theorem known_any (w : World) :
    Calls Tryd.prog 43 #[] w fun e w' => e = .returned (.tuple #[.slice (some ⟨w.heap.size, 0, none⟩) 8 8, .slice (some ⟨w.heap.size + 1, 0, none⟩) 64 64]) ∧
      OwnN w.heap.size 64 .u32 (.slice (some ⟨w.heap.size, 0, none⟩) 8 8) shaH w' ∧ OwnN w.heap.size 64 .u32 (.slice (some ⟨w.heap.size + 1, 0, none⟩) 64 64) shaK w' ∧ Below w.heap.size w w' := by
  go_enter Tryd.func43, Tryd.ntmps43
  go_wp2_with fail
  go_ret2
  refine ⟨rfl, ?_, ?_, ((Below.refl _ w).alloc (Nat.le_refl _) _).alloc (by simp) _⟩
  · have h := World.ownsRow_lit (base := w.heap.size) (e := 64) (size := 1) w (nums .u32 shaH).toArray 8 (Nat.le_refl _) (by unfold maxLen; omega) rfl
    exact OwnN.alloc h _
  · have h := World.ownsRow_lit (base := w.heap.size) (e := 64) (size := 1) (w.alloc (.cells (nums .u32 shaH).toArray 64)) (nums .u32 shaK).toArray 64 (by simp) (by unfold maxLen; omega) rfl
    have e : (w.alloc (.cells (nums .u32 shaH).toArray 64)).heap.size = w.heap.size + 1 := by simp
    rw [e] at h
    exact h

def hlN (pl : List Nat) (q : Nat) : List Nat := (pl.take (min q 8)).map (fun p => rootN p false)
def klN (pl : List Nat) (q : Nat) : List Nat := (pl.take q).map (fun p => rootN p true)
theorem hl_next {pl : List Nat} {q : Nat} (hq : q < pl.length) (h8 : q < 8) : hlN pl (q + 1) = hlN pl q ++ [rootN pl[q] false] := by
  unfold hlN
  rw [show min (q + 1) 8 = q + 1 by omega, show min q 8 = q by omega, List.take_succ_eq_append_getElem hq, List.map_append]
  rfl
theorem hl_more {pl : List Nat} {q : Nat} (h8 : ¬ q < 8) : hlN pl (q + 1) = hlN pl q := by
  unfold hlN
  rw [show min (q + 1) 8 = 8 by omega, show min q 8 = 8 by omega]
theorem kl_next {pl : List Nat} {q : Nat} (hq : q < pl.length) : klN pl (q + 1) = klN pl q ++ [rootN pl[q] true] := by
  unfold klN
  rw [List.take_succ_eq_append_getElem hq, List.map_append]
  rfl
theorem hl_len (pl : List Nat) (q : Nat) : (hlN pl q).length ≤ 8 := by unfold hlN; rw [List.length_map, List.length_take]; omega
theorem kl_len (pl : List Nat) (q : Nat) : (klN pl q).length ≤ pl.length := by unfold klN; rw [List.length_map, List.length_take]; omega

end Go.Proofs.YthgfpojfnhkckaaDoor

/-! A row of numbers that the call owns, the mark behind its end being whatever: what '[]byte(s)' lays, and what is pushed behind it. -/
namespace Go.Proofs.YthgfpojfnhkckaaDoor
open Go.RowKit

section
variable {P : Program}

end

end Go.Proofs.YthgfpojfnhkckaaDoor

/-! The digest, as plain mathematics: padded bytes, words, rounds, blocks. -/
namespace Go.Proofs.YthgfpojfnhkckaaDoor
open Go.RowKit

/-- A sum modulo 2^32. -/
abbrev M32 : Nat := 4294967296
def s0 (x : Nat) : Nat := rotr x 7 ^^^ rotr x 18 ^^^ x / 8
def s1 (x : Nat) : Nat := rotr x 17 ^^^ rotr x 19 ^^^ x / 1024
def S1 (x : Nat) : Nat := rotr x 6 ^^^ rotr x 11 ^^^ rotr x 25
def S0 (x : Nat) : Nat := rotr x 2 ^^^ rotr x 13 ^^^ rotr x 22
def ch (e f g : Nat) : Nat := (e &&& f) ^^^ ((4294967295 ^^^ e) &&& g)
def mj (a b c : Nat) : Nat := (a &&& b) ^^^ (a &&& c) ^^^ (b &&& c)

theorem xor_lt {a b : Nat} (ha : a < 4294967296) (hb : b < 4294967296) : a ^^^ b < 4294967296 := Nat.xor_lt_two_pow (n := 32) ha hb
theorem and_lt {a b : Nat} (hb : b < 4294967296) : a &&& b < 4294967296 := Nat.lt_of_le_of_lt Nat.and_le_right hb
theorem s0_lt {x : Nat} (h : x < 4294967296) : s0 x < 4294967296 := xor_lt (xor_lt (rotr_lt _ _ h) (rotr_lt _ _ h)) (by omega)
theorem s1_lt {x : Nat} (h : x < 4294967296) : s1 x < 4294967296 := xor_lt (xor_lt (rotr_lt _ _ h) (rotr_lt _ _ h)) (by omega)
theorem S0_lt {x : Nat} (h : x < 4294967296) : S0 x < 4294967296 := xor_lt (xor_lt (rotr_lt _ _ h) (rotr_lt _ _ h)) (rotr_lt _ _ h)
theorem S1_lt {x : Nat} (h : x < 4294967296) : S1 x < 4294967296 := xor_lt (xor_lt (rotr_lt _ _ h) (rotr_lt _ _ h)) (rotr_lt _ _ h)
theorem ch_lt {e f g : Nat} (hf : f < 4294967296) (hg : g < 4294967296) : ch e f g < 4294967296 := xor_lt (and_lt hf) (and_lt hg)
theorem mj_lt {a b c : Nat} (hb : b < 4294967296) (hc : c < 4294967296) : mj a b c < 4294967296 := xor_lt (xor_lt (and_lt hb) (and_lt hc)) (and_lt hc)

/-- A block's words, b its bytes. -/
def wordN (b : Nat → Nat) (i : Nat) : Nat := b (4 * i) * 16777216 + b (4 * i + 1) * 65536 + b (4 * i + 2) * 256 + b (4 * i + 3)
def nextW (l : List Nat) (i : Nat) : Nat := (l.getD (i - 16) 0 + l.getD (i - 7) 0 + s0 (l.getD (i - 15) 0) + s1 (l.getD (i - 2) 0)) % 4294967296
def wl (b : Nat → Nat) : Nat → List Nat
  | 0 => []
  | i + 1 => wl b i ++ [if i < 16 then wordN b i else nextW (wl b i) i]
theorem wl_len (b : Nat → Nat) (i : Nat) : (wl b i).length = i := by
  induction i with
  | zero => rfl
  | succ i ih => rw [wl, List.length_append, ih]; rfl
theorem wl_word {b : Nat → Nat} {i : Nat} (h : i < 16) : wl b (i + 1) = wl b i ++ [wordN b i] := by rw [wl, if_pos h]
theorem wl_next {b : Nat → Nat} {i : Nat} (h : ¬ i < 16) : wl b (i + 1) = wl b i ++ [nextW (wl b i) i] := by rw [wl, if_neg h]
theorem wordN_lt {b : Nat → Nat} (hb : ∀ j, b j < 256) (i : Nat) : wordN b i < 4294967296 := by
  have h0 := hb (4 * i)
  have h1 := hb (4 * i + 1)
  have h2 := hb (4 * i + 2)
  have h3 := hb (4 * i + 3)
  unfold wordN
  omega
theorem wl_lt {b : Nat → Nat} (hb : ∀ j, b j < 256) (i : Nat) : ∀ x ∈ wl b i, x < 4294967296 := by
  induction i with
  | zero => intro x h; cases h
  | succ i ih =>
    intro x h
    rw [wl, List.mem_append] at h
    rcases h with h | h
    · exact ih x h
    · rw [List.mem_singleton] at h
      subst h
      split
      · exact wordN_lt hb i
      · exact Nat.mod_lt _ (by decide)

/-- The eight words. -/
structure S8 where
  (a b c d e f g h : Nat)
def S8.list (v : S8) : List Nat := [v.a, v.b, v.c, v.d, v.e, v.f, v.g, v.h]
structure S8.Ok (v : S8) : Prop where
  a : v.a < 4294967296
  b : v.b < 4294967296
  c : v.c < 4294967296
  d : v.d < 4294967296
  e : v.e < 4294967296
  f : v.f < 4294967296
  g : v.g < 4294967296
  h : v.h < 4294967296
def tN (v : S8) (k w : Nat) : Nat := (v.h + S1 v.e + ch v.e v.f v.g + k + w) % 4294967296
def uN (v : S8) : Nat := (S0 v.a + mj v.a v.b v.c) % 4294967296
def rnd (v : S8) (k w : Nat) : S8 := ⟨(tN v k w + uN v) % 4294967296, v.a, v.b, v.c, (v.d + tN v k w) % 4294967296, v.e, v.f, v.g⟩
theorem rnd_ok {v : S8} (h : v.Ok) (k w : Nat) : (rnd v k w).Ok := ⟨Nat.mod_lt _ (by decide), h.a, h.b, h.c, Nat.mod_lt _ (by decide), h.e, h.f, h.g⟩
def rl (v : S8) (W : List Nat) : Nat → S8
  | 0 => v
  | i + 1 => rnd (rl v W i) (shaK.getD i 0) (W.getD i 0)
theorem rl_ok {v : S8} (h : v.Ok) (W : List Nat) (i : Nat) : (rl v W i).Ok := by
  induction i with
  | zero => exact h
  | succ i ih => exact rnd_ok ih _ _
def addS (v u : S8) : S8 := ⟨(v.a + u.a) % 4294967296, (v.b + u.b) % 4294967296, (v.c + u.c) % 4294967296, (v.d + u.d) % 4294967296, (v.e + u.e) % 4294967296, (v.f + u.f) % 4294967296, (v.g + u.g) % 4294967296, (v.h + u.h) % 4294967296⟩
theorem addS_ok (v u : S8) : (addS v u).Ok :=
  ⟨Nat.mod_lt _ (by decide), Nat.mod_lt _ (by decide), Nat.mod_lt _ (by decide), Nat.mod_lt _ (by decide), Nat.mod_lt _ (by decide), Nat.mod_lt _ (by decide), Nat.mod_lt _ (by decide), Nat.mod_lt _ (by decide)⟩
def H0 : S8 := ⟨1779033703, 3144134277, 1013904242, 2773480762, 1359893119, 2600822924, 528734635, 1541459225⟩
theorem H0_list : H0.list = shaH := rfl
theorem H0_ok : H0.Ok := ⟨by decide, by decide, by decide, by decide, by decide, by decide, by decide, by decide⟩
/-- One block. -/
def block (v : S8) (b : Nat → Nat) : S8 := addS v (rl v (wl b 64) 64)
theorem t_int (a b c d e f g h k w : Nat) (he : e < 4294967296) (hf : f < 4294967296) (hg : g < 4294967296) :
    ((h : Int) + bits BinOp.xor IntKind.u32 (bits BinOp.xor IntKind.u32 ((rotr e 6 : Nat) : Int) ((rotr e 11 : Nat) : Int)) ((rotr e 25 : Nat) : Int) +
      bits BinOp.xor IntKind.u32 (bits BinOp.and IntKind.u32 (e : Int) (f : Int)) (bits BinOp.and IntKind.u32 (bits BinOp.xor IntKind.u32 IntKind.u32.max (e : Int)) (g : Int)) + (k : Int) + (w : Int)) % 4294967296 =
    ((tN ⟨a, b, c, d, e, f, g, h⟩ k w : Nat) : Int) := by
  have hm : IntKind.u32.max = ((4294967295 : Nat) : Int) := by decide
  rw [hm, u32_xor_nat _ _ (rotr_lt _ _ he) (rotr_lt _ _ he), u32_xor_nat _ _ (xor_lt (rotr_lt _ _ he) (rotr_lt _ _ he)) (rotr_lt _ _ he), u32_and_nat _ _ he hf, u32_xor_nat _ _ (by decide) he, u32_and_nat _ _ (xor_lt (by decide) he) hg, u32_xor_nat _ _ (and_lt hf) (and_lt hg)]
  unfold tN S1 ch
  simp only [Int.natCast_emod, Int.natCast_add]
  rfl
theorem u_int (a b c d e f g h : Nat) (ha : a < 4294967296) (hb : b < 4294967296) (hc : c < 4294967296) :
    (bits BinOp.xor IntKind.u32 (bits BinOp.xor IntKind.u32 ((rotr a 2 : Nat) : Int) ((rotr a 13 : Nat) : Int)) ((rotr a 22 : Nat) : Int) +
      bits BinOp.xor IntKind.u32 (bits BinOp.xor IntKind.u32 (bits BinOp.and IntKind.u32 (a : Int) (b : Int)) (bits BinOp.and IntKind.u32 (a : Int) (c : Int))) (bits BinOp.and IntKind.u32 (b : Int) (c : Int))) % 4294967296 =
    ((uN ⟨a, b, c, d, e, f, g, h⟩ : Nat) : Int) := by
  rw [u32_xor_nat _ _ (rotr_lt _ _ ha) (rotr_lt _ _ ha), u32_xor_nat _ _ (xor_lt (rotr_lt _ _ ha) (rotr_lt _ _ ha)) (rotr_lt _ _ ha), u32_and_nat _ _ ha hb, u32_and_nat _ _ ha hc, u32_and_nat _ _ hb hc, u32_xor_nat _ _ (and_lt hb) (and_lt hc), u32_xor_nat _ _ (xor_lt (and_lt hb) (and_lt hc)) (and_lt hc)]
  unfold uN S0 mj
  simp only [Int.natCast_emod, Int.natCast_add]
  rfl
theorem w_int (y16 y7 y15 y2 : Nat) (h15 : y15 < 4294967296) (h2 : y2 < 4294967296) (h3 : y15 / 8 < 4294967296) (h4 : y2 / 1024 < 4294967296) :
    ((y16 : Int) + (y7 : Int) + bits BinOp.xor IntKind.u32 (bits BinOp.xor IntKind.u32 ((rotr y15 7 : Nat) : Int) ((rotr y15 18 : Nat) : Int)) ((y15 / 8 : Nat) : Int) +
      bits BinOp.xor IntKind.u32 (bits BinOp.xor IntKind.u32 ((rotr y2 17 : Nat) : Int) ((rotr y2 19 : Nat) : Int)) ((y2 / 1024 : Nat) : Int)) % 4294967296 =
    (((y16 + y7 + s0 y15 + s1 y2) % 4294967296 : Nat) : Int) := by
  rw [u32_xor_nat _ _ (rotr_lt _ _ h15) (rotr_lt _ _ h15), u32_xor_nat _ _ (xor_lt (rotr_lt _ _ h15) (rotr_lt _ _ h15)) h3, u32_xor_nat _ _ (rotr_lt _ _ h2) (rotr_lt _ _ h2), u32_xor_nat _ _ (xor_lt (rotr_lt _ _ h2) (rotr_lt _ _ h2)) h4]
  unfold s0 s1
  simp only [Int.natCast_emod, Int.natCast_add]
  rfl
theorem tN_lt (v : S8) (k w : Nat) : tN v k w < 4294967296 := Nat.mod_lt _ (by decide)
theorem uN_lt (v : S8) : uN v < 4294967296 := Nat.mod_lt _ (by decide)

/-- So many blocks of the padded bytes p. -/
def blocks (p : List Nat) : Nat → S8
  | 0 => H0
  | n + 1 => block (blocks p n) (fun j => p.getD (64 * n + j) 0)
theorem blocks_ok (p : List Nat) (n : Nat) : (blocks p n).Ok := by
  cases n with
  | zero => exact H0_ok
  | succ n => exact addS_ok _ _

/-- The zeros behind n bytes; eight bytes of a number. -/
def zerosN (n : Nat) : Nat := (119 - n % 64) % 64
def l8 (N : Nat) : Nat → List Nat
  | 0 => []
  | i + 1 => l8 N i ++ [N * 256 ^ i % 18446744073709551616 / 72057594037927936]
theorem l8_len (N i : Nat) : (l8 N i).length = i := by
  induction i with
  | zero => rfl
  | succ i ih => rw [l8, List.length_append, ih]; rfl
theorem l8_lt (N i : Nat) : ∀ x ∈ l8 N i, x < 256 := by
  induction i with
  | zero => intro x h; cases h
  | succ i ih =>
    intro x h
    rw [l8, List.mem_append] at h
    rcases h with h | h
    · exact ih x h
    · rw [List.mem_singleton] at h
      have : N * 256 ^ i % 18446744073709551616 < 18446744073709551616 := Nat.mod_lt _ (by decide)
      omega
def padN (s : List UInt8) : List Nat := byteNs s ++ [128] ++ List.replicate (zerosN s.length) 0 ++ l8 (s.length * 8) 8
theorem padN_len (s : List UInt8) : (padN s).length = s.length + 9 + zerosN s.length := by
  simp [padN, byteNs_len, l8_len]
  omega
theorem padN_mod (s : List UInt8) : (padN s).length % 64 = 0 := by
  rw [padN_len]
  unfold zerosN
  omega
theorem padN_lt (s : List UInt8) : ∀ x ∈ padN s, x < 256 := by
  intro x h
  simp only [padN, List.mem_append] at h
  rcases h with ((h | h) | h) | h
  · simp only [byteNs, List.mem_map] at h
    obtain ⟨b, _, rfl⟩ := h
    exact b.toNat_lt
  · rw [List.mem_singleton] at h; omega
  · have := List.eq_of_mem_replicate h; omega
  · exact l8_lt _ _ x h
/-- The digest's bytes, of eight words. -/
def outN (l : List Nat) : List Nat := (List.range 32).map fun i => l.getD (i / 4) 0 / 2 ^ (24 - 8 * (i % 4)) % 256
/-- The digest of bytes. -/
def shaN (s : List UInt8) : List Nat := outN (blocks (padN s) ((padN s).length / 64)).list
end Go.Proofs.YthgfpojfnhkckaaDoor
