/-
  Digits, the developers' and the document's.
-/
import Derived.Test.YtcjjhddppcmgoaaDoorWalk
/-! Digits, as plain mathematics. -/
namespace Go.Proofs.YtcjjhddppcmgoaaDoor
open Go.RowKit

def digL : List Nat → List Nat
  | [] => []
  | x :: l => x / 16 :: x % 16 :: digL l
theorem digL_len (l : List Nat) : (digL l).length = 2 * l.length := by
  induction l with
  | nil => rfl
  | cons x l ih => simp only [digL, List.length_cons, ih]; omega
theorem digL_append (l m : List Nat) : digL (l ++ m) = digL l ++ digL m := by
  induction l with
  | nil => rfl
  | cons x l ih => simp [digL, ih]
theorem digL_next {l : List Nat} {k : Nat} (h : k < l.length) : digL (l.take (k + 1)) = digL (l.take k) ++ [l.getD k 0 / 16, l.getD k 0 % 16] := by
  rw [List.take_succ_eq_append_getElem h, digL_append, List.getD_eq_getElem?_getD, List.getElem?_eq_getElem h]
  rfl
theorem digL_lt {l : List Nat} (hl : ∀ x ∈ l, x < 256) : ∀ d ∈ digL l, d < 16 := by
  induction l with
  | nil => intro d h; cases h
  | cons x l ih =>
    intro d hd
    have hx := hl x (by simp)
    simp only [digL, List.mem_cons] at hd
    rcases hd with rfl | rfl | hd
    · omega
    · omega
    · exact ih (fun y hy => hl y (by simp [hy])) d hd
theorem digL_inj {l m : List Nat} (h : digL l = digL m) : l = m := by
  induction l generalizing m with
  | nil =>
    cases m with
    | nil => rfl
    | cons y m => simp [digL] at h
  | cons x l ih =>
    cases m with
    | nil => simp [digL] at h
    | cons y m =>
      simp only [digL, List.cons.injEq] at h
      rw [ih h.2.2, show x = y by omega]
/-- What digits leave to 15. -/
def leftL (l : List Nat) : Nat := (l.map fun d => 15 - d).sum
theorem leftL_append (l m : List Nat) : leftL (l ++ m) = leftL l + leftL m := by simp [leftL]
theorem leftL_next {l : List Nat} {k : Nat} (h : k < l.length) : leftL (l.take (k + 1)) = leftL (l.take k) + (15 - l.getD k 0) := by
  rw [List.take_succ_eq_append_getElem h, leftL_append, List.getD_eq_getElem?_getD, List.getElem?_eq_getElem h]
  simp [leftL]
theorem leftL_le (l : List Nat) : leftL l ≤ 15 * l.length := by
  induction l with
  | nil => simp [leftL]
  | cons x l ih => simp only [leftL, List.map_cons, List.sum_cons, List.length_cons] at *; omega
/-- The digits of an element. -/
def sumL (n : Nat) : List Nat := [n / 256, n / 16 % 16, n % 16]
def digN (x : List Nat) : List Nat := digL x ++ sumL (leftL (digL x))
theorem digN_len {x : List Nat} (hx : x.length = 16) : (digN x).length = 35 := by
  rw [digN, List.length_append, digL_len, hx]; rfl
theorem left_480 {x : List Nat} (hx : x.length = 16) : leftL (digL x) ≤ 480 := by
  have := leftL_le (digL x)
  rw [digL_len, hx] at this
  exact this
theorem digN_lt {x : List Nat} (hx : x.length = 16) (hl : ∀ y ∈ x, y < 256) : ∀ d ∈ digN x, d < 16 := by
  intro d hd
  have h := left_480 hx
  rw [digN, List.mem_append] at hd
  rcases hd with hd | hd
  · exact digL_lt hl d hd
  · simp only [sumL, List.mem_cons, List.not_mem_nil, or_false] at hd
    rcases hd with rfl | rfl | rfl <;> omega

/-- No digit greater, and as much left: the same. -/
theorem left_mono {l m : List Nat} (hlen : l.length = m.length) (h : ∀ j, l.getD j 0 ≤ m.getD j 0) : leftL m ≤ leftL l := by
  induction l generalizing m with
  | nil =>
    cases m with
    | nil => exact Nat.le_refl _
    | cons y m => simp at hlen
  | cons x l ih =>
    cases m with
    | nil => simp at hlen
    | cons y m =>
      have h0 := h 0
      have h1 := ih (m := m) (by simpa using hlen) (fun j => by have := h (j + 1); simpa using this)
      simp only [List.getD_cons_zero] at h0
      simp only [leftL, List.map_cons, List.sum_cons] at *
      omega
theorem left_same {l m : List Nat} (hlen : l.length = m.length) (hm : ∀ d ∈ m, d < 16) (h : ∀ j, l.getD j 0 ≤ m.getD j 0) (hs : leftL l ≤ leftL m) : l = m := by
  induction l generalizing m with
  | nil =>
    cases m with
    | nil => rfl
    | cons y m => simp at hlen
  | cons x l ih =>
    cases m with
    | nil => simp at hlen
    | cons y m =>
      have h0 := h 0
      simp only [List.getD_cons_zero] at h0
      have ht : ∀ j, l.getD j 0 ≤ m.getD j 0 := fun j => by have := h (j + 1); simpa using this
      have hl2 : l.length = m.length := by simpa using hlen
      have hy := hm y (by simp)
      have h1 := left_mono hl2 ht
      simp only [leftL, List.map_cons, List.sum_cons] at hs h1
      have e : x = y := by omega
      subst e
      rw [ih hl2 (fun d hd => hm d (by simp [hd])) ht (by simp only [leftL]; omega)]
theorem getD_left (l m : List Nat) (j : Nat) (h : j < l.length) : (l ++ m).getD j 0 = l.getD j 0 := by
  rw [List.getD_eq_getElem?_getD, List.getElem?_append_left h, ← List.getD_eq_getElem?_getD]
theorem getD_right (l m : List Nat) (j : Nat) : (l ++ m).getD (l.length + j) 0 = m.getD j 0 := by
  rw [List.getD_eq_getElem?_getD, List.getElem?_append_right (by omega), List.getD_eq_getElem?_getD]
  congr 2
  omega
/-- Elements of which one has no greater digit are the same. -/
theorem digN_le {x y : List Nat} (hx : x.length = 16) (hy : y.length = 16) (ly : ∀ d ∈ y, d < 256) (h : ∀ j, j < 35 → (digN x).getD j 0 ≤ (digN y).getD j 0) : x = y := by
  have e1 : (digL x).length = 32 := by rw [digL_len, hx]
  have e2 : (digL y).length = 32 := by rw [digL_len, hy]
  have hd : ∀ j, (digL x).getD j 0 ≤ (digL y).getD j 0 := fun j => by
    by_cases hj : j < 32
    · have := h j (by omega)
      rwa [digN, digN, getD_left _ _ _ (by omega), getD_left _ _ _ (by omega)] at this
    · rw [List.getD_eq_getElem?_getD, List.getElem?_eq_none (by omega)]
      exact Nat.zero_le _
  have hs : ∀ j, j < 3 → (sumL (leftL (digL x))).getD j 0 ≤ (sumL (leftL (digL y))).getD j 0 := fun j hj => by
    have := h (32 + j) (by omega)
    have a := getD_right (digL x) (sumL (leftL (digL x))) j
    have b := getD_right (digL y) (sumL (leftL (digL y))) j
    rw [e1] at a
    rw [e2] at b
    rwa [digN, digN, a, b] at this
  have s0 := hs 0 (by omega)
  have s1 := hs 1 (by omega)
  have s2 := hs 2 (by omega)
  simp only [sumL, List.getD_cons_zero, List.getD_cons_succ] at s0 s1 s2
  exact digL_inj (left_same (by rw [e1, e2]) (digL_lt ly) hd (by omega))

/-- The array while it is filled: k bytes' digits; then the checksum's, from its end. -/
def arrD (x : List Nat) (k : Nat) : List Nat := digL (x.take k) ++ List.replicate (35 - 2 * k) 0
theorem arrD_len {x : List Nat} (hx : x.length = 16) {k : Nat} (hk : k ≤ 16) : (arrD x k).length = 35 := by
  rw [arrD, List.length_append, digL_len, List.length_take, List.length_replicate, hx]; omega
theorem arrD_set {x : List Nat} (hx : x.length = 16) {k : Nat} (hk : k < 16) : ((arrD x k).set (2 * k) (x.getD k 0 / 16)).set (2 * k + 1) (x.getD k 0 % 16) = arrD x (k + 1) := by
  have hl : (digL (x.take k)).length = 2 * k := by rw [digL_len, List.length_take, hx]; omega
  unfold arrD
  rw [digL_next (by rw [hx]; exact hk), List.set_append_right _ _ (by omega), hl, Nat.sub_self, show 35 - 2 * k = (35 - 2 * (k + 1)) + 1 + 1 by omega, List.replicate_succ, List.replicate_succ, List.set_cons_zero, List.set_append_right _ _ (by omega), hl, show 2 * k + 1 - 2 * k = 1 by omega, List.set_cons_succ, List.set_cons_zero, List.append_assoc]
  rfl
theorem arrD_full {x : List Nat} (hx : x.length = 16) : arrD x 16 = digL x ++ [0, 0, 0] := by
  rw [arrD, List.take_of_length_le (by omega)]; rfl
def tailD (n : Nat) : Nat → List Nat
  | 0 => [0, 0, 0]
  | 1 => [0, 0, n % 16]
  | 2 => [0, n / 16 % 16, n % 16]
  | _ => sumL n
theorem tailD_len (n j : Nat) : (tailD n j).length = 3 := by
  match j with
  | 0 => rfl
  | 1 => rfl
  | 2 => rfl
  | _ + 3 => rfl
theorem tailD_set {n : Nat} (hn : n ≤ 480) (l : List Nat) (hl : l.length = 32) {j : Nat} (hj : j < 3) : (l ++ tailD n j).set (34 - j) (n / 16 ^ j % 16) = l ++ tailD n (j + 1) := by
  rw [List.set_append_right _ _ (by omega), hl]
  congr 1
  match j, hj with
  | 0, _ => simp [tailD]
  | 1, _ => simp [tailD]
  | 2, _ => simp [tailD, sumL]; omega
theorem left_bytes {x : List Nat} (lx : ∀ y ∈ x, y < 256) {k : Nat} (h : k < x.length) : leftL (digL (x.take (k + 1))) = leftL (digL (x.take k)) + 30 - x.getD k 0 / 16 - x.getD k 0 % 16 := by
  have h2 := getD_lt lx (by decide) k
  rw [digL_next h, leftL_append]
  simp only [leftL, List.map_cons, List.map_nil, List.sum_cons, List.sum_nil]
  omega
/-- Is one of the first k numbers less than the other's? -/
def lessB (a b : List Nat) (k : Nat) : Bool := (List.range k).any fun j => decide (a.getD j 0 < b.getD j 0)
theorem lessB_next (a b : List Nat) (k : Nat) : lessB a b (k + 1) = (lessB a b k || decide (a.getD k 0 < b.getD k 0)) := by
  simp [lessB, List.range_succ, List.any_append]
theorem lessB_same (a : List Nat) (k : Nat) : lessB a a k = false := by simp [lessB]
theorem lessB_not {a b : List Nat} {k : Nat} (h : lessB a b k = false) (j : Nat) (hj : j < k) : b.getD j 0 ≤ a.getD j 0 := by
  have := List.any_eq_false.1 h j (List.mem_range.2 hj)
  simp at this
  simpa using this
theorem lessB_digits {x y : List Nat} (hx : x.length = 16) (hy : y.length = 16) (lx : ∀ d ∈ x, d < 256) (h : x ≠ y) : lessB (digN x) (digN y) 35 = true := by
  cases e : lessB (digN x) (digN y) 35 with
  | true => rfl
  | false => exact absurd (digN_le hy hx lx (lessB_not e)).symm h
end Go.Proofs.YtcjjhddppcmgoaaDoor

/-! Digits, the developers'. -/
namespace Go.Proofs.YtcjjhddppcmgoaaDoor
open Go.RowKit Go.BigFrame

theorem and_i15' : ∀ n : Fin 481, bits BinOp.and IntKind.i64 (n.val : Int) 15 = ((n.val % 16 : Nat) : Int) := by decide +kernel
theorem and_i15 (x : Nat) (h : x ≤ 480) : bits BinOp.and IntKind.i64 (x : Int) 15 = ((x % 16 : Nat) : Int) := and_i15' ⟨x, by omega⟩
theorem Tryd.infoDg : (Tryd.prog.info? 73).map (fun i => i.size) = some 35 := by kernel_rfl

set_option maxHeartbeats 4000000 in
set_option maxRecDepth 100000 in
theorem dev_digits (x : List Nat) (w : World) (hx : x.length = 16) (hl : ∀ y ∈ x, y < 256) :
    Calls Tryd.prog 49 #[.agg (nums .u8 x).toArray] w fun e w' => e = .returned (.agg (nums .i64 (digN x)).toArray) ∧ Below w.heap.size w w' := by
  have HX := Lib.hid hx
  have HL := Lib.hid hl
  clear hx hl
  go_enter Tryd.func49, Tryd.ntmps49
  go_upto_region 2 with (fail)
  change Code.wp _ _ _ _ (((w.alloc (.cells (nums .u8 x).toArray 31)).alloc (.cells (nums .i64 (List.replicate 35 0)).toArray 73)).alloc (.cells (nums .i64 (List.replicate 35 0)).toArray 73))
  obtain ⟨w1, hw1⟩ : ∃ x', x' = ((w.alloc (.cells (nums .u8 x).toArray 31)).alloc (.cells (nums .i64 (List.replicate 35 0)).toArray 73)).alloc (.cells (nums .i64 (List.replicate 35 0)).toArray 73) := ⟨_, rfl⟩
  rw [← hw1]
  have h3 : Blk w.heap.size 31 .u8 x w1 ∧ Blk (w.heap.size + 1) 73 .i64 (List.replicate 35 0) w1 ∧ Blk (w.heap.size + 2) 73 .i64 (List.replicate 35 0) w1 ∧ Below w.heap.size w w1 := by rw [hw1]; exact three_of w _ _ _ _ _ _ _ _ _
  obtain ⟨hx1, hr1, hd1, hb1⟩ := h3
  have HX1 := Lib.hid hx1
  have HR1 := Lib.hid hr1
  have HD1 := Lib.hid hd1
  have HB1 := Lib.hid hb1
  have HI := Lib.hid (show (Tryd.prog.info? 31).map (·.size) = some x.length by rw [HX.out]; exact Tryd.infoE)
  clear hx1 hr1 hd1 hb1 hw1
  obtain ⟨gd, hgd⟩ : ∃ g, g = w.heap.size + 1 + 1 := ⟨_, rfl⟩
  rw [← hgd]
  rw [show w.heap.size + 2 = gd from hgd.symm] at HD1
  have HGD := Lib.hid hgd
  clear hgd
  go_wp2_with (refine wpList_load_nums rfl 31 _ rfl w.heap.size .u8 _ 31 _ rfl HX1.out Tryd.underlying31 rfl HI.out ?_)
  go_loopw [11] (fun n wq => ∃ k : Nat, k ≤ 16 ∧ n = .int .i64 k ∧ Blk gd 73 .i64 (arrD x k) wq ∧ But gd w1 wq) (fun n _ => 16 - (intOf n).toNat)
  case atStart => exact ⟨0, by omega, rfl, HD1.out, But.refl _ _⟩
  case round =>
    clear HD1
    obtain ⟨k, hk, rfl, hc, hb⟩ := hrel
    have HC := Lib.hid hc
    have HB := Lib.hid hb
    clear hc hb
    by_cases hlk : k < 16
    · have hix := fun w => run_index_nums (P := Tryd.prog) 31 5 16 .u8 x k w Tryd.underlying31 HX.out Tryd.sizeOf5 Tryd.isAgg5 hlk
      have hx := getD_lt HL.out (by decide) k
      have HS := Lib.hid (arrD_set HX.out hlk)
      have HAL := Lib.hid (arrD_len HX.out hk)
      generalize arrD x k = L at HC HS HAL ⊢
      generalize x.getD k 0 = y at hix hx HS
      have e2 : bits BinOp.and IntKind.u8 (y : Int) 15 = ((y % 16 : Nat) : Int) := and_15 y hx
      have c1 := HC.out.cell (2 * k) (by rw [HAL.out]; omega)
      have f1 := HC.out.frozen (2 * k)
      go_upto_region 6 with (fail)
      clear hix c1 f1
      obtain ⟨w2, hw2⟩ : ∃ x', x' = wr.setCell ⟨gd, 2 * k, none⟩ (.int .i64 ((y : Int) / 16)) := ⟨_, rfl⟩
      rw [← hw2]
      rw [show (y : Int) / 16 = ((y / 16 : Nat) : Int) by omega] at hw2 ⊢
      have hc2 : Blk gd 73 .i64 (L.set (2 * k) (y / 16)) w2 := by rw [hw2]; exact HC.out.set _ _
      have HB2 := Lib.hid (show But gd w1 w2 by rw [hw2]; exact HB.out.setCell _ _)
      have HC2 := Lib.hid hc2
      have c1 := hc2.cell (2 * k + 1) (by rw [List.length_set, HAL.out]; omega)
      have f1 := hc2.frozen (2 * k + 1)
      clear hw2 HC HB hc2
      have HS3 := Lib.hid (HC2.out.set (2 * k + 1) (y % 16))
      rw [HS.out] at HS3
      have b1 : ((2 : Int) * k + 1) < 35 := by omega
      generalize (L.set (2 * k) (y / 16)).getD (2 * k + 1) 0 = z at c1
      clear HS HAL
      go_wp2_with fail
      exact ⟨⟨k + 1, by omega, by go_num, HS3.out, HB2.out.setCell _ _⟩, by simp [intOf]; omega⟩
    · obtain rfl : k = 16 := by omega
      rw [arrD_full HX.out] at HC
      have HD := Lib.hid (show (digL x).length = 32 by rw [digL_len, HX.out])
      have HDL := Lib.hid (digL_lt HL.out)
      have HN := Lib.hid (show digN x = digL x ++ sumL (leftL (digL x)) from rfl)
      generalize digL x = D at HC HD HDL HN
      have HR1' := Lib.hid (HR1.out.but HB.out (by have := HGD.out; omega))
      have HB' := Lib.hid (show Below w.heap.size w wr from But.toBelow HB1.out HB.out (by have := HGD.out; omega) HB1.out.size)
      clear HB HB1 HR1 HX1 HI
      go_wp2_with fail
      go_loop [6, 31] (fun n j => ∃ k : Nat, k ≤ 32 ∧ j = .int .i64 k ∧ n = .int .i64 (leftL (D.take k)) ∧ leftL (D.take k) ≤ 480) (fun _ j => 32 - (intOf j).toNat)
      case atStart => exact ⟨0, by omega, rfl, rfl, by simp [leftL]⟩
      case round =>
        obtain ⟨k, hk, rfl, rfl, hle⟩ := hrel
        by_cases hlk : k < 32
        · have c1 := HC.out.cell k (by rw [List.length_append, HD.out]; omega)
          rw [getD_left _ _ _ (by rw [HD.out]; exact hlk)] at c1
          have hd := getD_lt HDL.out (by decide) k
          have hnx := leftL_next (l := D) (k := k) (by rw [HD.out]; exact hlk)
          have hln := leftL_le (D.take (k + 1))
          rw [List.length_take, HD.out] at hln
          have HNX := Lib.hid hnx
          have HLN := Lib.hid (show leftL (D.take (k + 1)) ≤ 480 by omega)
          clear hnx hln
          generalize D.getD k 0 = z at c1 hd HNX
          go_wp2_with fail
          exact ⟨⟨k + 1, by omega, by go_num, by rw [HNX.out]; go_num, HLN.out⟩, by simp [intOf]; omega⟩
        · obtain rfl : k = 32 := by omega
          rw [List.take_of_length_le (by rw [HD.out]; exact Nat.le_refl _)] at hle ⊢
          generalize leftL D = N at HN hle ⊢
          go_wp2_with fail
          go_loopw [6, 9] (fun n j wq => ∃ k : Nat, k ≤ 3 ∧ j = .int .i64 (34 - (k : Int)) ∧ n = .int .i64 ((N / 16 ^ k : Nat) : Int) ∧ Blk gd 73 .i64 (D ++ tailD N k) wq ∧ But gd wr wq) (fun _ j _ => (intOf j + 1).toNat)
          case atStart => exact ⟨0, by omega, rfl, by simp, HC.out, But.refl _ _⟩
          case round =>
            clear HC
            obtain ⟨k, hk, rfl, rfl, hc, hb⟩ := hrel
            have HC := Lib.hid hc
            have HB := Lib.hid hb
            clear hc hb
            obtain ⟨q, hq⟩ : ∃ q : Nat, 34 - (k : Int) = q := ⟨34 - k, by omega⟩
            rw [hq]
            by_cases hlk : k < 3
            · have hM : N / 16 ^ k ≤ 480 := Nat.le_trans (Nat.div_le_self _ _) hle
              have HS := Lib.hid (tailD_set hle D HD.out hlk)
              have HM := Lib.hid (show N / 16 ^ (k + 1) = N / 16 ^ k / 16 by rw [Nat.div_div_eq_div_mul, Nat.pow_succ])
              rw [show 34 - k = q by omega] at HS
              have HTL := Lib.hid (show (D ++ tailD N k).length = 35 by rw [List.length_append, HD.out, tailD_len])
              generalize N / 16 ^ k = M at hM HS HM ⊢
              have e1 := and_i15 M hM
              have c1 := HC.out.cell q (by rw [HTL.out]; omega)
              have f1 := HC.out.frozen q
              have HS3 := Lib.hid (HC.out.set q (M % 16))
              rw [HS.out] at HS3
              have b1 : (32 : Int) ≤ q := by omega
              have b2 : (q : Int) < 35 := by omega
              generalize (D ++ tailD N k).getD q 0 = z at c1
              clear HTL HS
              go_wp2_with fail
              exact ⟨⟨k + 1, by omega, by go_num, by rw [HM.out]; go_num, HS3.out, HB.out.setCell _ _⟩, by simp [intOf]⟩
            · obtain rfl : k = 3 := by omega
              obtain rfl : q = 31 := by omega
              have HC3 := Lib.hid (show Blk gd 73 .i64 (digN x) wr by have h := HC.out; rw [show tailD N 3 = sumL N from rfl, ← HN.out] at h; exact h)
              have HR3 := Lib.hid (HR1'.out.but HB.out (by have := HGD.out; omega))
              have HB3 := Lib.hid (show Below w.heap.size w wr from But.toBelow HB'.out HB.out (by have := HGD.out; omega) HB'.out.size)
              have HGW := Lib.hid (HB3.out.size)
              clear HC HB HR1' HB' hq
              have HIN := Lib.hid (show (Tryd.prog.info? 73).map (·.size) = some (digN x).length by rw [digN_len HX.out]; exact Tryd.infoDg)
              have HL2 := Lib.hid (show (List.replicate 35 0).length = (digN x).length by rw [digN_len HX.out]; rfl)
              go_wp2_with (first | (refine wpList_load_nums rfl 73 _ rfl gd .i64 _ 73 _ rfl HC3.out Tryd.underlying73 rfl HIN.out ?_) | (refine wpList_store_nums rfl 73 _ _ rfl rfl (w.heap.size + 1) .i64 _ (digN x) 73 rfl rfl HR3.out HIN.out HL2.out ?_))
              intro w7 hc hb
              have HC7 := Lib.hid (show Blk (w.heap.size + 1) 73 .i64 (digN x) w7 from hc.out)
              have HB7 := Lib.hid (show Below w.heap.size w w7 from But.toBelow HB3.out hb.out (by omega) HB3.out.size)
              clear hc hb
              go_wp2_with fail
              exact bodyPost_ret (results_nums rfl _ _ (w.heap.size + 1) .i64 _ 73 _ rfl HC7.out Tryd.underlying73 rfl HIN.out) rfl ⟨rfl, HB7.out⟩
end Go.Proofs.YtcjjhddppcmgoaaDoor

/-! Digits, the document's. -/
namespace Go.Proofs.YtcjjhddppcmgoaaDoor
open Go.RowKit Go.BigFrame

theorem Tryd.infoInt : (Tryd.prog.info? 3).map (fun i => (i.zero, i.size, i.bytes)) = some (some (.int .i64 0), 1, 8) := by kernel_rfl
set_option maxHeartbeats 4000000 in
set_option maxRecDepth 100000 in
theorem ref_digits (x : List Nat) (w : World) (hx : x.length = 16) (hl : ∀ y ∈ x, y < 256) :
    Calls Tryd.prog 59 #[.agg (nums .u8 x).toArray] w fun e w' => ∃ ao c, e = .returned (.slice ao 35 c) ∧ OwnN w.heap.size 3 .i64 (.slice ao 35 c) (digN x) w' ∧ Below w.heap.size w w' := by
  have HX := Lib.hid hx
  have HL := Lib.hid hl
  clear hx hl
  go_enter Tryd.func59, Tryd.ntmps59
  go_upto_region 3 with (fail)
  obtain ⟨w1, hw1⟩ : ∃ x', x' = w.alloc (.cells (nums .u8 x).toArray 31) := ⟨_, rfl⟩
  rw [← hw1]
  have HX1 := Lib.hid (show Blk w.heap.size 31 .u8 x w1 by rw [hw1]; exact heap_alloc_new w _)
  have HB1 := Lib.hid (show Below w.heap.size w w1 by rw [hw1]; exact (Below.refl _ _).alloc (Nat.le_refl _) _)
  have HI := Lib.hid (show (Tryd.prog.info? 31).map (·.size) = some x.length by rw [HX.out]; exact Tryd.infoE)
  clear hw1
  go_wp2_with (refine wpList_load_nums rfl 31 _ rfl w.heap.size .u8 _ 31 _ rfl HX1.out Tryd.underlying31 rfl HI.out ?_)
  go_loopw [3, 4, 8] (fun v n i wq => ∃ k : Nat, k ≤ 16 ∧ i = .int .i64 k ∧ n = .int .i64 (leftL (digL (x.take k))) ∧ OwnN w.heap.size 3 .i64 v (digL (x.take k)) wq ∧ Below w.heap.size w1 wq) (fun _ _ i _ => 16 - (intOf i).toNat)
  case atStart => exact ⟨0, by omega, rfl, rfl, OwnN.nil _ _ _ _, Below.refl _ _⟩
  case round =>
    obtain ⟨k, hk, rfl, rfl, ho, hb⟩ := hrel
    obtain ⟨ao, cp, rfl⟩ := ho.form
    have HO := Lib.hid ho
    have HB := Lib.hid hb
    have HW := Lib.hid (Nat.le_trans HB1.out.size hb.size)
    clear ho hb
    by_cases hlk : k < 16
    · have hix := fun w => run_index_nums (P := Tryd.prog) 31 5 16 .u8 x k w Tryd.underlying31 HX.out Tryd.sizeOf5 Tryd.isAgg5 hlk
      have hy := getD_lt HL.out (by decide) k
      have HN := Lib.hid (digL_next (l := x) (k := k) (by rw [HX.out]; exact hlk))
      have HM := Lib.hid (left_bytes HL.out (k := k) (by rw [HX.out]; exact hlk))
      have HLE := Lib.hid (show leftL (digL (x.take k)) ≤ 480 by have h := leftL_le (digL (x.take k)); rw [digL_len, List.length_take, HX.out] at h; omega)
      have HLN := Lib.hid (show (digL (x.take k)).length ≤ 32 by rw [digL_len, List.length_take, HX.out]; omega)
      generalize x.getD k 0 = y at hix hy HN HM
      generalize digL (x.take k) = L at HO HN HM HLE HLN ⊢
      obtain ⟨a, ha⟩ : ∃ a, a = y / 16 := ⟨_, rfl⟩
      obtain ⟨b, hb⟩ : ∃ b, b = y % 16 := ⟨_, rfl⟩
      rw [← ha, ← hb] at HN HM
      have e1 : (y : Int) / 16 = (a : Int) := by omega
      have e2 : (y : Int) % 16 = (b : Int) := by omega
      have ha16 : a < 16 := by omega
      have hb16 : b < 16 := by omega
      have HLA := Lib.hid (show L.length + [a, b].length ≤ maxLen by have := HLN.out; simp; unfold maxLen; omega)
      have HLB := Lib.hid (show (L.length + [a, b].length) * 8 ≤ 140737488355328 by have := HLN.out; simp; omega)
      clear ha hb
      go_wp2_with (refine wpList_append_nums rfl (.tmp 11) (.tmp 18) 85 3 rfl w.heap.size .i64 8 Tryd.underlying85 Tryd.infoInt (.slice ao L.length cp) L [a, b] ⟨wr.heap.size, 0, none⟩ 2 2 rfl rfl (OwnN.alloc HO.out _) rfl (cells_new wr .i64 [a, b] 3) HLA.out HLB.out (by have := HW.out; simp; omega) ?_)
      intro v4 w4 ho4 hb4
      have HB4 := Lib.hid (show Below w.heap.size w1 w4 from (HB.out.alloc HW.out _).trans hb4.out)
      clear hb4
      have hle := HLE.out
      go_wp2_with fail
      exact ⟨⟨k + 1, by omega, by go_num, by rw [HM.out]; go_num, by rw [HN.out]; exact ho4.out, HB4.out⟩, by simp [intOf]; omega⟩
    · obtain rfl : k = 16 := by omega
      rw [List.take_of_length_le (by rw [HX.out]; exact Nat.le_refl _)] at HO ⊢
      have HD := Lib.hid (show (digL x).length = 32 by rw [digL_len, HX.out])
      have HN := Lib.hid (show digN x = digL x ++ sumL (leftL (digL x)) from rfl)
      have HLE := Lib.hid (left_480 HX.out)
      generalize digL x = D at HO HD HN HLE ⊢
      have hle := HLE.out
      obtain ⟨a, ha⟩ : ∃ a, a = leftL D / 256 := ⟨_, rfl⟩
      obtain ⟨b, hb⟩ : ∃ b, b = leftL D / 16 % 16 := ⟨_, rfl⟩
      obtain ⟨c, hc⟩ : ∃ c, c = leftL D % 16 := ⟨_, rfl⟩
      rw [sumL, ← ha, ← hb, ← hc] at HN
      have e1 : (leftL D : Int) / 256 = (a : Int) := by omega
      have e2 : (leftL D : Int) / 16 % 16 = (b : Int) := by omega
      have e3 : (leftL D : Int) % 16 = (c : Int) := by omega
      clear ha hb hc
      rw [HD.out] at HO ⊢
      have HLA := Lib.hid (show D.length + [a, b, c].length ≤ maxLen by rw [HD.out]; simp; unfold maxLen; omega)
      have HLB := Lib.hid (show (D.length + [a, b, c].length) * 8 ≤ 140737488355328 by rw [HD.out]; simp)
      go_wp2_with (refine wpList_append_nums rfl (.tmp 31) (.tmp 39) 85 3 rfl w.heap.size .i64 8 Tryd.underlying85 Tryd.infoInt (.slice ao 32 cp) D [a, b, c] ⟨wr.heap.size, 0, none⟩ 3 3 rfl rfl (OwnN.alloc HO.out _) rfl (cells_new wr .i64 [a, b, c] 3) HLA.out HLB.out (by have := HW.out; simp; omega) ?_)
      intro v4 w4 ho4 hb4
      have HB4 := Lib.hid (show Below w.heap.size w w4 from HB1.out.trans ((HB.out.alloc HW.out _).trans hb4.out))
      have HO4 := Lib.hid (show OwnN w.heap.size 3 .i64 v4 (digN x) w4 by rw [HN.out]; exact ho4.out)
      clear hb4 ho4
      obtain ⟨ao4, c4, rfl⟩ := HO4.out.form
      have HO5 := Lib.hid (show OwnN w.heap.size 3 .i64 (.slice ao4 35 c4) (digN x) w4 by have h := HO4.out; rwa [digN_len HX.out] at h)
      rw [digN_len HX.out]
      go_wp2_with fail
      go_ret
      exact ⟨ao4, c4, rfl, HO5.out, HB4.out⟩
end Go.Proofs.YtcjjhddppcmgoaaDoor
