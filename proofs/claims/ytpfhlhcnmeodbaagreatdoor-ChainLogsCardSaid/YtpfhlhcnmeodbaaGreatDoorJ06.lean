/-
  Joined: Digits, the developers' and the document's.; One-time signatures as mathematics.; Secret and key, the document's num and Of of layer 4.; Rows of elements of sixteen bytes: what lies there, what is pushed, stored and read; a slice of arrays that came in.; Trees over elements, as plain mathematics.; Keys, as plain mathematics.; Logs as plain mathematics: what is digested, to what entries lead, words, their bytes, what bytes are; two rows that lead to the same.
-/
import Derived.Deep.MidRow
import Derived.Deep.Slices
import Derived.Great.BuildSlice
import Derived.OpenShut
import Derived.Test.YtpfhlhcnmeodbaaGreatDoorJ01
import Derived.Test.YtpfhlhcnmeodbaaGreatDoorJ02
import Derived.Test.YtpfhlhcnmeodbaaGreatDoorJ05
namespace Go.Proofs.YtpfhlhcnmeodbaaGreatDoor
open Go.RowKit
def digL : List Nat → List Nat
  | [] => []
  | x :: l => x / 16 :: x % 16 :: digL l
theorem digL_len (l : List Nat) : (digL l).length = 2 * l.length := by
  induction l with
  | nil => rfl
  | cons x l ih => simp only [digL, List.length_cons, ih]; omega
theorem digL_append (l m : List Nat) : digL (l ++ m) = digL l ++ digL m := by
  induction l with
  | nil => rfl
  | cons x l ih => simp [digL, ih]
theorem digL_next {l : List Nat} {k : Nat} (h : k < l.length) : digL (l.take (k + 1)) = digL (l.take k) ++ [l.getD k 0 / 16, l.getD k 0 % 16] := by
  rw [List.take_succ_eq_append_getElem h, digL_append, List.getD_eq_getElem?_getD, List.getElem?_eq_getElem h]
  rfl
theorem digL_lt {l : List Nat} (hl : ∀ x ∈ l, x < 256) : ∀ d ∈ digL l, d < 16 := by
  induction l with
  | nil => intro d h; cases h
  | cons x l ih =>
    intro d hd
    have hx := hl x (by simp)
    simp only [digL, List.mem_cons] at hd
    rcases hd with rfl | rfl | hd
    · omega
    · omega
    · exact ih (fun y hy => hl y (by simp [hy])) d hd
def leftL (l : List Nat) : Nat := (l.map fun d => 15 - d).sum
theorem leftL_append (l m : List Nat) : leftL (l ++ m) = leftL l + leftL m := by simp [leftL]
theorem leftL_next {l : List Nat} {k : Nat} (h : k < l.length) : leftL (l.take (k + 1)) = leftL (l.take k) + (15 - l.getD k 0) := by
  rw [List.take_succ_eq_append_getElem h, leftL_append, List.getD_eq_getElem?_getD, List.getElem?_eq_getElem h]
  simp [leftL]
theorem leftL_le (l : List Nat) : leftL l ≤ 15 * l.length := by
  induction l with
  | nil => simp [leftL]
  | cons x l ih => simp only [leftL, List.map_cons, List.sum_cons, List.length_cons] at *; omega
def sumL (n : Nat) : List Nat := [n / 256, n / 16 % 16, n % 16]
def digN (x : List Nat) : List Nat := digL x ++ sumL (leftL (digL x))
theorem digN_len {x : List Nat} (hx : x.length = 16) : (digN x).length = 35 := by
  rw [digN, List.length_append, digL_len, hx]; rfl
theorem left_480 {x : List Nat} (hx : x.length = 16) : leftL (digL x) ≤ 480 := by
  have := leftL_le (digL x)
  rw [digL_len, hx] at this
  exact this
theorem digN_lt {x : List Nat} (hx : x.length = 16) (hl : ∀ y ∈ x, y < 256) : ∀ d ∈ digN x, d < 16 := by
  intro d hd
  have h := left_480 hx
  rw [digN, List.mem_append] at hd
  rcases hd with hd | hd
  · exact digL_lt hl d hd
  · simp only [sumL, List.mem_cons, List.not_mem_nil, or_false] at hd
    rcases hd with rfl | rfl | rfl <;> omega
theorem getD_left (l m : List Nat) (j : Nat) (h : j < l.length) : (l ++ m).getD j 0 = l.getD j 0 := by
  rw [List.getD_eq_getElem?_getD, List.getElem?_append_left h, ← List.getD_eq_getElem?_getD]
def arrD (x : List Nat) (k : Nat) : List Nat := digL (x.take k) ++ List.replicate (35 - 2 * k) 0
theorem arrD_len {x : List Nat} (hx : x.length = 16) {k : Nat} (hk : k ≤ 16) : (arrD x k).length = 35 := by
  rw [arrD, List.length_append, digL_len, List.length_take, List.length_replicate, hx]; omega
theorem arrD_set {x : List Nat} (hx : x.length = 16) {k : Nat} (hk : k < 16) : ((arrD x k).set (2 * k) (x.getD k 0 / 16)).set (2 * k + 1) (x.getD k 0 % 16) = arrD x (k + 1) := by
  have hl : (digL (x.take k)).length = 2 * k := by rw [digL_len, List.length_take, hx]; omega
  unfold arrD
  rw [digL_next (by rw [hx]; exact hk), List.set_append_right _ _ (by omega), hl, Nat.sub_self, show 35 - 2 * k = (35 - 2 * (k + 1)) + 1 + 1 by omega, List.replicate_succ, List.replicate_succ, List.set_cons_zero, List.set_append_right _ _ (by omega), hl, show 2 * k + 1 - 2 * k = 1 by omega, List.set_cons_succ, List.set_cons_zero, List.append_assoc]
  rfl
theorem arrD_full {x : List Nat} (hx : x.length = 16) : arrD x 16 = digL x ++ [0, 0, 0] := by
  rw [arrD, List.take_of_length_le (by omega)]; rfl
def tailD (n : Nat) : Nat → List Nat
  | 0 => [0, 0, 0]
  | 1 => [0, 0, n % 16]
  | 2 => [0, n / 16 % 16, n % 16]
  | _ => sumL n
theorem tailD_len (n j : Nat) : (tailD n j).length = 3 := by
  match j with
  | 0 => rfl
  | 1 => rfl
  | 2 => rfl
  | _ + 3 => rfl
theorem tailD_set {n : Nat} (hn : n ≤ 480) (l : List Nat) (hl : l.length = 32) {j : Nat} (hj : j < 3) : (l ++ tailD n j).set (34 - j) (n / 16 ^ j % 16) = l ++ tailD n (j + 1) := by
  rw [List.set_append_right _ _ (by omega), hl]
  congr 1
  match j, hj with
  | 0, _ => simp [tailD]
  | 1, _ => simp [tailD]
  | 2, _ => simp [tailD, sumL]; omega
theorem left_bytes {x : List Nat} (lx : ∀ y ∈ x, y < 256) {k : Nat} (h : k < x.length) : leftL (digL (x.take (k + 1))) = leftL (digL (x.take k)) + 30 - x.getD k 0 / 16 - x.getD k 0 % 16 := by
  have h2 := getD_lt lx (by decide) k
  rw [digL_next h, leftL_append]
  simp only [leftL, List.map_cons, List.map_nil, List.sum_cons, List.sum_nil]
  omega
end Go.Proofs.YtpfhlhcnmeodbaaGreatDoor
namespace Go.Proofs.YtpfhlhcnmeodbaaGreatDoor
open Go.RowKit Go.BigFrame
theorem and_i15' : ∀ n : Fin 481, bits BinOp.and IntKind.i64 (n.val : Int) 15 = ((n.val % 16 : Nat) : Int) := by decide +kernel
theorem and_i15 (x : Nat) (h : x ≤ 480) : bits BinOp.and IntKind.i64 (x : Int) 15 = ((x % 16 : Nat) : Int) := and_i15' ⟨x, by omega⟩
theorem Tryz.infoDg : (Tryz.prog.info? 107).map (fun i => i.size) = some 35 := by kernel_rfl
set_option maxHeartbeats 4000000 in
set_option maxRecDepth 100000 in
theorem dev_digits (x : List Nat) (w : World) (hx : x.length = 16) (hl : ∀ y ∈ x, y < 256) :
    Calls Tryz.prog 79 #[.agg (nums .u8 x).toArray] w fun e w' => e = .returned (.agg (nums .i64 (digN x)).toArray) ∧ Below w.heap.size w w' := by
  have HX := Lib.hid hx
  have HL := Lib.hid hl
  clear hx hl
  go_enter Tryz.func79, Tryz.ntmps79
  go_upto_region 2 with (fail)
  change Code.wp _ _ _ _ (((w.alloc (.cells (nums .u8 x).toArray 29)).alloc (.cells (nums .i64 (List.replicate 35 0)).toArray 107)).alloc (.cells (nums .i64 (List.replicate 35 0)).toArray 107))
  obtain ⟨w1, hw1⟩ : ∃ x', x' = ((w.alloc (.cells (nums .u8 x).toArray 29)).alloc (.cells (nums .i64 (List.replicate 35 0)).toArray 107)).alloc (.cells (nums .i64 (List.replicate 35 0)).toArray 107) := ⟨_, rfl⟩
  rw [← hw1]
  have h3 : Blk w.heap.size 29 .u8 x w1 ∧ Blk (w.heap.size + 1) 107 .i64 (List.replicate 35 0) w1 ∧ Blk (w.heap.size + 2) 107 .i64 (List.replicate 35 0) w1 ∧ Below w.heap.size w w1 := by rw [hw1]; exact three_of w _ _ _ _ _ _ _ _ _
  obtain ⟨hx1, hr1, hd1, hb1⟩ := h3
  have HX1 := Lib.hid hx1
  have HR1 := Lib.hid hr1
  have HD1 := Lib.hid hd1
  have HB1 := Lib.hid hb1
  have HI := Lib.hid (show (Tryz.prog.info? 29).map (·.size) = some x.length by rw [HX.out]; exact Tryz.infoE)
  clear hx1 hr1 hd1 hb1 hw1
  obtain ⟨gd, hgd⟩ : ∃ g, g = w.heap.size + 1 + 1 := ⟨_, rfl⟩
  rw [← hgd]
  rw [show w.heap.size + 2 = gd from hgd.symm] at HD1
  have HGD := Lib.hid hgd
  clear hgd
  go_wp2_with (refine wpList_load_nums rfl 29 _ rfl w.heap.size .u8 _ 29 _ rfl HX1.out Tryz.underlying29 rfl HI.out ?_)
  go_loopw [11] (fun n wq => ∃ k : Nat, k ≤ 16 ∧ n = .int .i64 k ∧ Blk gd 107 .i64 (arrD x k) wq ∧ But gd w1 wq) (fun n _ => 16 - (intOf n).toNat)
  case atStart => exact ⟨0, by omega, rfl, HD1.out, But.refl _ _⟩
  case round =>
    clear HD1
    obtain ⟨k, hk, rfl, hc, hb⟩ := hrel
    have HC := Lib.hid hc
    have HB := Lib.hid hb
    clear hc hb
    by_cases hlk : k < 16
    · have hix := fun w => run_index_nums (P := Tryz.prog) 29 5 16 .u8 x k w Tryz.underlying29 HX.out Tryz.sizeOf5 Tryz.isAgg5 hlk
      have hx := getD_lt HL.out (by decide) k
      have HS := Lib.hid (arrD_set HX.out hlk)
      have HAL := Lib.hid (arrD_len HX.out hk)
      generalize arrD x k = L at HC HS HAL ⊢
      generalize x.getD k 0 = y at hix hx HS
      have e2 : bits BinOp.and IntKind.u8 (y : Int) 15 = ((y % 16 : Nat) : Int) := and_15 y hx
      have c1 := HC.out.cell (2 * k) (by rw [HAL.out]; omega)
      have f1 := HC.out.frozen (2 * k)
      go_upto_region 6 with (fail)
      clear hix c1 f1
      obtain ⟨w2, hw2⟩ : ∃ x', x' = wr.setCell ⟨gd, 2 * k, none⟩ (.int .i64 ((y : Int) / 16)) := ⟨_, rfl⟩
      rw [← hw2]
      rw [show (y : Int) / 16 = ((y / 16 : Nat) : Int) by omega] at hw2 ⊢
      have hc2 : Blk gd 107 .i64 (L.set (2 * k) (y / 16)) w2 := by rw [hw2]; exact HC.out.set _ _
      have HB2 := Lib.hid (show But gd w1 w2 by rw [hw2]; exact HB.out.setCell _ _)
      have HC2 := Lib.hid hc2
      have c1 := hc2.cell (2 * k + 1) (by rw [List.length_set, HAL.out]; omega)
      have f1 := hc2.frozen (2 * k + 1)
      clear hw2 HC HB hc2
      have HS3 := Lib.hid (HC2.out.set (2 * k + 1) (y % 16))
      rw [HS.out] at HS3
      have b1 : ((2 : Int) * k + 1) < 35 := by omega
      generalize (L.set (2 * k) (y / 16)).getD (2 * k + 1) 0 = z at c1
      clear HS HAL
      go_wp2_with fail
      exact ⟨⟨k + 1, by omega, by go_num, HS3.out, HB2.out.setCell _ _⟩, by simp [intOf]; omega⟩
    · obtain rfl : k = 16 := by omega
      rw [arrD_full HX.out] at HC
      have HD := Lib.hid (show (digL x).length = 32 by rw [digL_len, HX.out])
      have HDL := Lib.hid (digL_lt HL.out)
      have HN := Lib.hid (show digN x = digL x ++ sumL (leftL (digL x)) from rfl)
      generalize digL x = D at HC HD HDL HN
      have HR1' := Lib.hid (HR1.out.but HB.out (by have := HGD.out; omega))
      have HB' := Lib.hid (show Below w.heap.size w wr from But.toBelow HB1.out HB.out (by have := HGD.out; omega) HB1.out.size)
      clear HB HB1 HR1 HX1 HI
      go_wp2_with fail
      go_loop [6, 31] (fun n j => ∃ k : Nat, k ≤ 32 ∧ j = .int .i64 k ∧ n = .int .i64 (leftL (D.take k)) ∧ leftL (D.take k) ≤ 480) (fun _ j => 32 - (intOf j).toNat)
      case atStart => exact ⟨0, by omega, rfl, rfl, by simp [leftL]⟩
      case round =>
        obtain ⟨k, hk, rfl, rfl, hle⟩ := hrel
        by_cases hlk : k < 32
        · have c1 := HC.out.cell k (by rw [List.length_append, HD.out]; omega)
          rw [getD_left _ _ _ (by rw [HD.out]; exact hlk)] at c1
          have hd := getD_lt HDL.out (by decide) k
          have hnx := leftL_next (l := D) (k := k) (by rw [HD.out]; exact hlk)
          have hln := leftL_le (D.take (k + 1))
          rw [List.length_take, HD.out] at hln
          have HNX := Lib.hid hnx
          have HLN := Lib.hid (show leftL (D.take (k + 1)) ≤ 480 by omega)
          clear hnx hln
          generalize D.getD k 0 = z at c1 hd HNX
          go_wp2_with fail
          exact ⟨⟨k + 1, by omega, by go_num, by rw [HNX.out]; go_num, HLN.out⟩, by simp [intOf]; omega⟩
        · obtain rfl : k = 32 := by omega
          rw [List.take_of_length_le (by rw [HD.out]; exact Nat.le_refl _)] at hle ⊢
          generalize leftL D = N at HN hle ⊢
          go_wp2_with fail
          go_loopw [6, 9] (fun n j wq => ∃ k : Nat, k ≤ 3 ∧ j = .int .i64 (34 - (k : Int)) ∧ n = .int .i64 ((N / 16 ^ k : Nat) : Int) ∧ Blk gd 107 .i64 (D ++ tailD N k) wq ∧ But gd wr wq) (fun _ j _ => (intOf j + 1).toNat)
          case atStart => exact ⟨0, by omega, rfl, by simp, HC.out, But.refl _ _⟩
          case round =>
            clear HC
            obtain ⟨k, hk, rfl, rfl, hc, hb⟩ := hrel
            have HC := Lib.hid hc
            have HB := Lib.hid hb
            clear hc hb
            obtain ⟨q, hq⟩ : ∃ q : Nat, 34 - (k : Int) = q := ⟨34 - k, by omega⟩
            rw [hq]
            by_cases hlk : k < 3
            · have hM : N / 16 ^ k ≤ 480 := Nat.le_trans (Nat.div_le_self _ _) hle
              have HS := Lib.hid (tailD_set hle D HD.out hlk)
              have HM := Lib.hid (show N / 16 ^ (k + 1) = N / 16 ^ k / 16 by rw [Nat.div_div_eq_div_mul, Nat.pow_succ])
              rw [show 34 - k = q by omega] at HS
              have HTL := Lib.hid (show (D ++ tailD N k).length = 35 by rw [List.length_append, HD.out, tailD_len])
              generalize N / 16 ^ k = M at hM HS HM ⊢
              have e1 := and_i15 M hM
              have c1 := HC.out.cell q (by rw [HTL.out]; omega)
              have f1 := HC.out.frozen q
              have HS3 := Lib.hid (HC.out.set q (M % 16))
              rw [HS.out] at HS3
              have b1 : (32 : Int) ≤ q := by omega
              have b2 : (q : Int) < 35 := by omega
              generalize (D ++ tailD N k).getD q 0 = z at c1
              clear HTL HS
              go_wp2_with fail
              exact ⟨⟨k + 1, by omega, by go_num, by rw [HM.out]; go_num, HS3.out, HB.out.setCell _ _⟩, by simp [intOf]⟩
            · obtain rfl : k = 3 := by omega
              obtain rfl : q = 31 := by omega
              have HC3 := Lib.hid (show Blk gd 107 .i64 (digN x) wr by have h := HC.out; rw [show tailD N 3 = sumL N from rfl, ← HN.out] at h; exact h)
              have HR3 := Lib.hid (HR1'.out.but HB.out (by have := HGD.out; omega))
              have HB3 := Lib.hid (show Below w.heap.size w wr from But.toBelow HB'.out HB.out (by have := HGD.out; omega) HB'.out.size)
              have HGW := Lib.hid (HB3.out.size)
              clear HC HB HR1' HB' hq
              have HIN := Lib.hid (show (Tryz.prog.info? 107).map (·.size) = some (digN x).length by rw [digN_len HX.out]; exact Tryz.infoDg)
              have HL2 := Lib.hid (show (List.replicate 35 0).length = (digN x).length by rw [digN_len HX.out]; rfl)
              go_wp2_with (first | (refine wpList_load_nums rfl 107 _ rfl gd .i64 _ 107 _ rfl HC3.out Tryz.underlying107 rfl HIN.out ?_) | (refine wpList_store_nums rfl 107 _ _ rfl rfl (w.heap.size + 1) .i64 _ (digN x) 107 rfl rfl HR3.out HIN.out HL2.out ?_))
              intro w7 hc hb
              have HC7 := Lib.hid (show Blk (w.heap.size + 1) 107 .i64 (digN x) w7 from hc.out)
              have HB7 := Lib.hid (show Below w.heap.size w w7 from But.toBelow HB3.out hb.out (by omega) HB3.out.size)
              clear hc hb
              go_wp2_with fail
              exact bodyPost_ret (results_nums rfl _ _ (w.heap.size + 1) .i64 _ 107 _ rfl HC7.out Tryz.underlying107 rfl HIN.out) rfl ⟨rfl, HB7.out⟩
end Go.Proofs.YtpfhlhcnmeodbaaGreatDoor
namespace Go.Proofs.YtpfhlhcnmeodbaaGreatDoor
open Go.RowKit Go.BigFrame
theorem Tryz.infoInt : (Tryz.prog.info? 3).map (fun i => (i.zero, i.size, i.bytes)) = some (some (.int .i64 0), 1, 8) := by kernel_rfl
set_option maxHeartbeats 4000000 in
set_option maxRecDepth 100000 in
theorem ref_digits (x : List Nat) (w : World) (hx : x.length = 16) (hl : ∀ y ∈ x, y < 256) :
    Calls Tryz.prog 97 #[.agg (nums .u8 x).toArray] w fun e w' => ∃ ao c, e = .returned (.slice ao 35 c) ∧ OwnN w.heap.size 3 .i64 (.slice ao 35 c) (digN x) w' ∧ Below w.heap.size w w' := by
  have HX := Lib.hid hx
  have HL := Lib.hid hl
  clear hx hl
  go_enter Tryz.func97, Tryz.ntmps97
  go_upto_region 3 with (fail)
  obtain ⟨w1, hw1⟩ : ∃ x', x' = w.alloc (.cells (nums .u8 x).toArray 29) := ⟨_, rfl⟩
  rw [← hw1]
  have HX1 := Lib.hid (show Blk w.heap.size 29 .u8 x w1 by rw [hw1]; exact heap_alloc_new w _)
  have HB1 := Lib.hid (show Below w.heap.size w w1 by rw [hw1]; exact (Below.refl _ _).alloc (Nat.le_refl _) _)
  have HI := Lib.hid (show (Tryz.prog.info? 29).map (·.size) = some x.length by rw [HX.out]; exact Tryz.infoE)
  clear hw1
  go_wp2_with (refine wpList_load_nums rfl 29 _ rfl w.heap.size .u8 _ 29 _ rfl HX1.out Tryz.underlying29 rfl HI.out ?_)
  go_loopw [3, 4, 8] (fun v n i wq => ∃ k : Nat, k ≤ 16 ∧ i = .int .i64 k ∧ n = .int .i64 (leftL (digL (x.take k))) ∧ OwnN w.heap.size 3 .i64 v (digL (x.take k)) wq ∧ Below w.heap.size w1 wq) (fun _ _ i _ => 16 - (intOf i).toNat)
  case atStart => exact ⟨0, by omega, rfl, rfl, OwnN.nil _ _ _ _, Below.refl _ _⟩
  case round =>
    obtain ⟨k, hk, rfl, rfl, ho, hb⟩ := hrel
    obtain ⟨ao, cp, rfl⟩ := ho.form
    have HO := Lib.hid ho
    have HB := Lib.hid hb
    have HW := Lib.hid (Nat.le_trans HB1.out.size hb.size)
    clear ho hb
    by_cases hlk : k < 16
    · have hix := fun w => run_index_nums (P := Tryz.prog) 29 5 16 .u8 x k w Tryz.underlying29 HX.out Tryz.sizeOf5 Tryz.isAgg5 hlk
      have hy := getD_lt HL.out (by decide) k
      have HN := Lib.hid (digL_next (l := x) (k := k) (by rw [HX.out]; exact hlk))
      have HM := Lib.hid (left_bytes HL.out (k := k) (by rw [HX.out]; exact hlk))
      have HLE := Lib.hid (show leftL (digL (x.take k)) ≤ 480 by have h := leftL_le (digL (x.take k)); rw [digL_len, List.length_take, HX.out] at h; omega)
      have HLN := Lib.hid (show (digL (x.take k)).length ≤ 32 by rw [digL_len, List.length_take, HX.out]; omega)
      generalize x.getD k 0 = y at hix hy HN HM
      generalize digL (x.take k) = L at HO HN HM HLE HLN ⊢
      obtain ⟨a, ha⟩ : ∃ a, a = y / 16 := ⟨_, rfl⟩
      obtain ⟨b, hb⟩ : ∃ b, b = y % 16 := ⟨_, rfl⟩
      rw [← ha, ← hb] at HN HM
      have e1 : (y : Int) / 16 = (a : Int) := by omega
      have e2 : (y : Int) % 16 = (b : Int) := by omega
      have ha16 : a < 16 := by omega
      have hb16 : b < 16 := by omega
      have HLA := Lib.hid (show L.length + [a, b].length ≤ maxLen by have := HLN.out; simp; unfold maxLen; omega)
      have HLB := Lib.hid (show (L.length + [a, b].length) * 8 ≤ 140737488355328 by have := HLN.out; simp; omega)
      clear ha hb
      go_wp2_with (refine wpList_append_nums rfl (.tmp 11) (.tmp 18) 145 3 rfl w.heap.size .i64 8 Tryz.underlying145 Tryz.infoInt (.slice ao L.length cp) L [a, b] ⟨wr.heap.size, 0, none⟩ 2 2 rfl rfl (OwnN.alloc HO.out _) rfl (cells_new wr .i64 [a, b] 3) HLA.out HLB.out (by have := HW.out; simp; omega) ?_)
      intro v4 w4 ho4 hb4
      have HB4 := Lib.hid (show Below w.heap.size w1 w4 from (HB.out.alloc HW.out _).trans hb4.out)
      clear hb4
      have hle := HLE.out
      go_wp2_with fail
      exact ⟨⟨k + 1, by omega, by go_num, by rw [HM.out]; go_num, by rw [HN.out]; exact ho4.out, HB4.out⟩, by simp [intOf]; omega⟩
    · obtain rfl : k = 16 := by omega
      rw [List.take_of_length_le (by rw [HX.out]; exact Nat.le_refl _)] at HO ⊢
      have HD := Lib.hid (show (digL x).length = 32 by rw [digL_len, HX.out])
      have HN := Lib.hid (show digN x = digL x ++ sumL (leftL (digL x)) from rfl)
      have HLE := Lib.hid (left_480 HX.out)
      generalize digL x = D at HO HD HN HLE ⊢
      have hle := HLE.out
      obtain ⟨a, ha⟩ : ∃ a, a = leftL D / 256 := ⟨_, rfl⟩
      obtain ⟨b, hb⟩ : ∃ b, b = leftL D / 16 % 16 := ⟨_, rfl⟩
      obtain ⟨c, hc⟩ : ∃ c, c = leftL D % 16 := ⟨_, rfl⟩
      rw [sumL, ← ha, ← hb, ← hc] at HN
      have e1 : (leftL D : Int) / 256 = (a : Int) := by omega
      have e2 : (leftL D : Int) / 16 % 16 = (b : Int) := by omega
      have e3 : (leftL D : Int) % 16 = (c : Int) := by omega
      clear ha hb hc
      rw [HD.out] at HO ⊢
      have HLA := Lib.hid (show D.length + [a, b, c].length ≤ maxLen by rw [HD.out]; simp; unfold maxLen; omega)
      have HLB := Lib.hid (show (D.length + [a, b, c].length) * 8 ≤ 140737488355328 by rw [HD.out]; simp)
      go_wp2_with (refine wpList_append_nums rfl (.tmp 31) (.tmp 39) 145 3 rfl w.heap.size .i64 8 Tryz.underlying145 Tryz.infoInt (.slice ao 32 cp) D [a, b, c] ⟨wr.heap.size, 0, none⟩ 3 3 rfl rfl (OwnN.alloc HO.out _) rfl (cells_new wr .i64 [a, b, c] 3) HLA.out HLB.out (by have := HW.out; simp; omega) ?_)
      intro v4 w4 ho4 hb4
      have HB4 := Lib.hid (show Below w.heap.size w w4 from HB1.out.trans ((HB.out.alloc HW.out _).trans hb4.out))
      have HO4 := Lib.hid (show OwnN w.heap.size 3 .i64 v4 (digN x) w4 by rw [HN.out]; exact ho4.out)
      clear hb4 ho4
      obtain ⟨ao4, c4, rfl⟩ := HO4.out.form
      have HO5 := Lib.hid (show OwnN w.heap.size 3 .i64 (.slice ao4 35 c4) (digN x) w4 by have h := HO4.out; rwa [digN_len HX.out] at h)
      rw [digN_len HX.out]
      go_wp2_with fail
      go_ret
      exact ⟨ao4, c4, rfl, HO5.out, HB4.out⟩
end Go.Proofs.YtpfhlhcnmeodbaaGreatDoor
namespace Go.Proofs.YtpfhlhcnmeodbaaGreatDoor
open Go.RowKit
def secN (seed : List UInt8) (i c : Int) : List Nat := (shaN (listB [[107], seed, numB i.toNat, numB c.toNat])).take 16
def keyN (ends : List UInt8) (i : Int) : List Nat := (shaN (listB [[108], ends, numB i.toNat])).take 16
theorem secN_len (seed : List UInt8) (i c : Int) : (secN seed i c).length = 16 := by rw [secN, List.length_take, shaN_len]; rfl
theorem secN_lt (seed : List UInt8) (i c : Int) : ∀ y ∈ secN seed i c, y < 256 := fun y hy => shaN_lt _ y (List.mem_of_mem_take hy)
theorem keyN_len (ends : List UInt8) (i : Int) : (keyN ends i).length = 16 := by rw [keyN, List.length_take, shaN_len]; rfl
theorem keyN_lt (ends : List UInt8) (i : Int) : ∀ y ∈ keyN ends i, y < 256 := fun y hy => shaN_lt _ y (List.mem_of_mem_take hy)
def rowE (f : Nat → List Nat) : Nat → List UInt8
  | 0 => []
  | k + 1 => rowE f k ++ txt (f k)
theorem rowE_len {f : Nat → List Nat} (hf : ∀ j, (f j).length = 16) (k : Nat) : (rowE f k).length = 16 * k := by
  induction k with
  | zero => rfl
  | succ k ih => rw [rowE, List.length_append, ih, txt_len, hf]; omega
def part (s : List UInt8) (j : Nat) : List UInt8 := (s.drop (16 * j)).take 16
theorem part_len {s : List UInt8} {j k : Nat} (h : s.length = 16 * k) (hj : j < k) : (part s j).length = 16 := by
  rw [part, List.length_take, List.length_drop]; omega
theorem part_rowE {f : Nat → List Nat} (hf : ∀ j, (f j).length = 16) {j : Nat} : ∀ {k : Nat}, j < k → part (rowE f k) j = txt (f j) := by
  intro k
  induction k with
  | zero => intro h; omega
  | succ k ih =>
    intro h
    have hl := rowE_len hf k
    by_cases e : j = k
    · subst e
      rw [part, rowE, List.drop_append_of_le_length (by omega), List.drop_of_length_le (by omega), List.nil_append, List.take_of_length_le (by rw [txt_len, hf]; exact Nat.le_refl _)]
    · rw [part, rowE, List.drop_append_of_le_length (by omega), List.take_append_of_le_length (by rw [List.length_drop]; omega)]
      exact ih (by omega)
theorem rowE_congr {f g : Nat → List Nat} : ∀ {k : Nat}, (∀ j, j < k → f j = g j) → rowE f k = rowE g k := by
  intro k
  induction k with
  | zero => intro _; rfl
  | succ k ih => intro h; rw [rowE, rowE, ih (fun j hj => h j (by omega)), h k (by omega)]
theorem byteNs_part_lt (s : List UInt8) (j : Nat) : ∀ y ∈ byteNs (part s j), y < 256 := byteNs_lt _
theorem walkI_len {x : List Nat} (hx : x.length = 16) (pl : List UInt8) (a b : Int) : (walkI x pl a b).length = 16 := walkN_len hx _ _ _
theorem walkI_lt {x : List Nat} (hx : ∀ y ∈ x, y < 256) (pl : List UInt8) (a b : Int) : ∀ y ∈ walkI x pl a b, y < 256 := walkN_lt hx _ _ _
theorem walkI_join (x : List Nat) (pl : List UInt8) {a b c : Int} (h0 : 0 ≤ a) (h1 : a ≤ b) (h2 : b ≤ c) (h3 : c ≤ 15) : walkI (walkI x pl a b) pl b c = walkI x pl a c := by
  unfold walkI
  have e1 : (max b 0).toNat = (max a 0).toNat + ((min b 15).toNat - (max a 0).toNat) := by omega
  have e2 : (min c 15).toNat - (max a 0).toNat = ((min b 15).toNat - (max a 0).toNat) + ((min c 15).toNat - (max b 0).toNat) := by omega
  rw [e2, ← walkN_add, ← e1]
def endF (seed : List UInt8) (i : Int) (j : Nat) : List Nat := walkI (secN seed i j) (placeB i j) 0 15
def sgnF (seed : List UInt8) (i : Int) (d : List Nat) (j : Nat) : List Nat := walkI (secN seed i j) (placeB i j) 0 ((digN d).getD j 0 : Nat)
def metF (sig : List UInt8) (i : Int) (d : List Nat) (j : Nat) : List Nat := walkI (byteNs (part sig j)) (placeB i j) ((digN d).getD j 0 : Nat) 15
def leafN (seed : List UInt8) (i : Int) : List Nat := keyN (rowE (endF seed i) 35) i
def signN (seed : List UInt8) (i : Int) (d : List Nat) : List UInt8 := rowE (sgnF seed i d) 35
def meetN (sig : List UInt8) (i : Int) (d : List Nat) : List Nat := keyN (rowE (metF sig i d) 35) i
theorem endF_len (seed : List UInt8) (i : Int) (j : Nat) : (endF seed i j).length = 16 := walkI_len (secN_len _ _ _) _ _ _
theorem sgnF_len (seed : List UInt8) (i : Int) (d : List Nat) (j : Nat) : (sgnF seed i d j).length = 16 := walkI_len (secN_len _ _ _) _ _ _
theorem endF_lt (seed : List UInt8) (i : Int) (j : Nat) : ∀ y ∈ endF seed i j, y < 256 := walkI_lt (secN_lt _ _ _) _ _ _
theorem sgnF_lt (seed : List UInt8) (i : Int) (d : List Nat) (j : Nat) : ∀ y ∈ sgnF seed i d j, y < 256 := walkI_lt (secN_lt _ _ _) _ _ _
theorem signN_len (seed : List UInt8) (i : Int) (d : List Nat) : (signN seed i d).length = 560 := rowE_len (sgnF_len seed i d) 35
theorem signN_part (seed : List UInt8) (i : Int) (d : List Nat) {j : Nat} (hj : j < 35) : byteNs (part (signN seed i d) j) = sgnF seed i d j := by
  rw [signN, part_rowE (sgnF_len seed i d) hj, byteNs_txt (sgnF_lt seed i d j)]
theorem meet_sign (seed : List UInt8) (i : Int) {d : List Nat} (hd : d.length = 16) (ld : ∀ y ∈ d, y < 256) : meetN (signN seed i d) i d = leafN seed i := by
  unfold meetN leafN
  rw [rowE_congr (g := endF seed i) fun j hj => ?_]
  have h := getD_lt (digN_lt hd ld) (by decide) j
  rw [metF, signN_part seed i d hj, sgnF, endF]
  exact walkI_join _ _ (by omega) (by omega) (by omega) (by omega)
theorem parts4_small {p a b c : List UInt8} (hp : p.length ≤ 8) (ha : a.length ≤ 4000) (hb : b.length ≤ 600) (hc : c.length ≤ 600) : (listB [p, a, b, c]).length ≤ 140737488350000 := by
  have h2 := numB_length_9 (n := [p, a, b, c].length) (by simp)
  have e1 := numB_length_9 (n := p.length) (by omega)
  have e2 := numB_length_9 (n := a.length) (by omega)
  have e3 := numB_length_9 (n := b.length) (by omega)
  have e4 := numB_length_9 (n := c.length) (by omega)
  rw [listB_length]
  simp only [textsB_cons, List.length_append, textB_length, show textsB [] = [] from rfl, List.length_nil] at *
  omega
theorem parts3_of {p a b : List UInt8} (hp : p.length ≤ 8) (ha : a.length ≤ 4000) (hb : b.length ≤ 600) : (listB [p, a, b]).length ≤ 140737488350000 := by
  have h2 := numB_length_9 (n := [p, a, b].length) (by simp)
  have e1 := numB_length_9 (n := p.length) (by omega)
  have e2 := numB_length_9 (n := a.length) (by omega)
  have e3 := numB_length_9 (n := b.length) (by omega)
  rw [listB_length]
  simp only [textsB_cons, List.length_append, textB_length, show textsB [] = [] from rfl, List.length_nil] at *
  omega
theorem at_2 (w : World) (q r : List UInt8) : StrsAt (some ⟨w.heap.size, 0, none⟩) [q, r] (w.alloc (.cells #[.string ⟨q.toArray⟩, .string ⟨r.toArray⟩] 9)) := by
  refine strsAt_own (B := w.heap.size) (c := 2) ?_
  exact World.ownsRow_lit (base := w.heap.size) (e := 9) (size := 1) w #[.string ⟨q.toArray⟩, .string ⟨r.toArray⟩] 2 (Nat.le_refl _) (by unfold maxLen; omega) rfl
end Go.Proofs.YtpfhlhcnmeodbaaGreatDoor
namespace Go.Proofs.YtpfhlhcnmeodbaaGreatDoor
open Go.RowKit
open Go.RowKit Go.BigFrame
set_option maxHeartbeats 4000000 in
set_option maxRecDepth 100000 in
theorem dev_secret (seed : List UInt8) (i c : Int) (w : World) (hs : seed.length ≤ 4000) (hi0 : -9223372036854775808 ≤ i) (hi : i ≤ 9223372036854775807) (hc0 : -9223372036854775808 ≤ c) (hc : c ≤ 9223372036854775807) (hk : KAt w) :
    Calls Tryz.prog 90 #[.string ⟨seed.toArray⟩, .agg #[.int .i64 i, .int .i64 c]] w fun e w' => e = .returned (.agg (nums .u8 (secN seed i c)).toArray) ∧ Below w.heap.size w w' := by
  have HS := Lib.hid hs
  have HK := Lib.hid hk
  clear hs hk
  go_enter Tryz.func90, Tryz.ntmps90
  go_upto_region 1 with (fail)
  change Code.wp _ _ _ _ ((w.alloc (.cells #[.int .i64 i, .int .i64 c] 134)).alloc (.cells (nums .u8 (List.replicate 16 0)).toArray 29))
  obtain ⟨w1, hw1⟩ : ∃ x', x' = (w.alloc (.cells #[.int .i64 i, .int .i64 c] 134)).alloc (.cells (nums .u8 (List.replicate 16 0)).toArray 29) := ⟨_, rfl⟩
  rw [← hw1]
  have h3 : Cells w.heap.size 134 #[.int .i64 i, .int .i64 c] w1 ∧ Blk (w.heap.size + 1) 29 .u8 (List.replicate 16 0) w1 ∧ Below w.heap.size w w1 := by rw [hw1]; exact cells_nums_new w _ _ _ _ _
  obtain ⟨hx1, hr1, hb1⟩ := h3
  have HI := Lib.hid (show w1.cell? ⟨w.heap.size, 0, none⟩ = some (.int .i64 i) by rw [Lib.cell_of_heap hx1]; rfl)
  have HC := Lib.hid (show w1.cell? ⟨w.heap.size, 1, none⟩ = some (.int .i64 c) by rw [Lib.cell_of_heap hx1]; rfl)
  have HG := Lib.hid hx1.lt
  have HR1 := Lib.hid hr1
  have HB1 := Lib.hid hb1
  have HK1 := Lib.hid (HK.out.below hb1)
  clear hx1 hr1 hb1 hw1 HK
  refine wp_region_class_tail (fun w' => SS w1 w') 7 (by kernel_rfl) (by kernel_rfl) (SS.start HK1.out) ?_
  simp only [List.take_succ_cons, List.take_zero, List.drop_succ_cons, List.drop_zero]
  repeat (first
    | (go_big_quiet_want; refine quiet_load_cell 3 _ rfl ⟨w.heap.size, 0, none⟩ _ rfl (fun w' h => (h.1.cell (p := ⟨w.heap.size, 0, none⟩) HG.out).trans HI.out) Tryz.isAgg3 ?_; go_big_quiet_on; simp only [Act.put, List.setIfInBounds_toArray, List.set_cons_zero, List.set_cons_succ])
    | (go_big_quiet_want; refine quiet_load_cell 3 _ rfl ⟨w.heap.size, 1, none⟩ _ rfl (fun w' h => (h.1.cell (p := ⟨w.heap.size, 1, none⟩) HG.out).trans HC.out) Tryz.isAgg3 ?_; go_big_quiet_on; simp only [Act.put, List.setIfInBounds_toArray, List.set_cons_zero, List.set_cons_succ])
    | go_big_quiet_step ((intro hs'; first
        | rfl
        | (go_at_call_of 50 (Value.int .i64 i); exact (num_int i _ hi0 hi).mono fun e w' h => ⟨h.1, hs'.next h.2⟩)
        | (go_at_call_of 50 (Value.int .i64 c); exact (num_int c _ hc0 hc).mono fun e w' h => ⟨h.1, hs'.next h.2⟩))))
  refine wpQuiet_nil ?_
  intro w2 hs2
  have HR2 := Lib.hid (HR1.out.below hs2.1)
  have HB2 := Lib.hid (HB1.out.trans (hs2.1.mono HB1.out.size))
  have HK2 := Lib.hid hs2.2
  clear hs2 HR1 HB1 HK1 HI HC HG
  have h1 := numB_length_9 (n := i.toNat) (by omega)
  have h2 := numB_length_9 (n := c.toNat) (by omega)
  have HP := Lib.hid (parts4_small (p := [107]) (a := seed) (b := numB i.toNat) (c := numB c.toNat) (by decide) HS.out (by omega) (by omega))
  clear h1 h2
  go_wp2_with fail
  refine (dev_sum [107] (some ⟨w2.heap.size, 0, none⟩) 3 [seed, numB i.toNat, numB c.toNat] _ (at_three w2 _ _ _) (fun h => by cases h) (by simp) HP.out (HK2.out.below ((Below.refl _ _).alloc (Nat.le_refl _) _))).mono ?_
  rintro e w3 ⟨rfl, hb3⟩
  have hb : Below w2.heap.size w2 w3 := ((Below.refl _ w2).alloc (Nat.le_refl _) _).trans (hb3.mono (by simp))
  have HR3 := Lib.hid (HR2.out.below hb)
  have HB3 := Lib.hid (HB2.out.trans (hb.mono HB2.out.size))
  clear hb hb3 HR2 HB2 HK2
  go_wp2_with fail
  refine (dev_cut _ w3 (shaN_len _)).mono ?_
  rintro e w4 ⟨rfl, hb4⟩
  have HR4 := Lib.hid (HR3.out.below hb4)
  have HB4 := Lib.hid (HB3.out.trans (hb4.mono HB3.out.size))
  clear hb4 HR3 HB3
  rw [show (shaN (listB [[107], seed, numB i.toNat, numB c.toNat])).take 16 = secN seed i c from rfl]
  have HI := Lib.hid (show (Tryz.prog.info? 29).map (·.size) = some (secN seed i c).length by rw [secN_len]; exact Tryz.infoE)
  have HL2 := Lib.hid (show (List.replicate 16 0).length = (secN seed i c).length by rw [secN_len]; rfl)
  go_wp2_with (refine wpList_store_nums rfl 29 _ _ rfl rfl (w.heap.size + 1) .u8 _ (secN seed i c) 29 rfl rfl HR4.out HI.out HL2.out ?_)
  intro w7 hc' hb'
  have HC7 := Lib.hid (show Blk (w.heap.size + 1) 29 .u8 (secN seed i c) w7 from hc'.out)
  have HB7 := Lib.hid (show Below w.heap.size w w7 from But.toBelow HB4.out hb'.out (by omega) HB4.out.size)
  clear hc' hb'
  go_wp2_with fail
  exact bodyPost_ret (results_nums rfl _ _ (w.heap.size + 1) .u8 _ 29 _ rfl HC7.out Tryz.underlying29 rfl HI.out) rfl ⟨rfl, HB7.out⟩
set_option maxHeartbeats 4000000 in
set_option maxRecDepth 100000 in
theorem dev_key (s : List UInt8) (i : Int) (w : World) (hs : s.length ≤ 4000) (hi0 : -9223372036854775808 ≤ i) (hi : i ≤ 9223372036854775807) (hk : KAt w) :
    Calls Tryz.prog 61 #[.string ⟨s.toArray⟩, .int .i64 i] w fun e w' => e = .returned (.agg (nums .u8 (keyN s i)).toArray) ∧ Below w.heap.size w w' := by
  have HS := Lib.hid hs
  have HK := Lib.hid hk
  clear hs hk
  go_enter Tryz.func61, Tryz.ntmps61
  go_upto_region 1 with (fail)
  change Code.wp _ _ _ _ (w.alloc (.cells (nums .u8 (List.replicate 16 0)).toArray 29))
  obtain ⟨w1, hw1⟩ : ∃ x', x' = w.alloc (.cells (nums .u8 (List.replicate 16 0)).toArray 29) := ⟨_, rfl⟩
  rw [← hw1]
  have hb1 : Below w.heap.size w w1 := by rw [hw1]; exact (Below.refl _ _).alloc (Nat.le_refl _) _
  have HR1 := Lib.hid (show Blk w.heap.size 29 .u8 (List.replicate 16 0) w1 by rw [hw1]; exact heap_alloc_new w _)
  have HB1 := Lib.hid hb1
  have HK1 := Lib.hid (HK.out.below hb1)
  have h1 := numB_length_9 (n := i.toNat) (by omega)
  have HP := Lib.hid (parts3_of (p := [108]) (a := s) (b := numB i.toNat) (by decide) HS.out (by omega))
  clear hb1 hw1 HK h1
  go_wp2_with fail
  refine (num_int i _ hi0 hi).mono ?_
  rintro e w2 ⟨rfl, hb2⟩
  have HR2 := Lib.hid (HR1.out.below hb2)
  have HB2 := Lib.hid (HB1.out.trans (hb2.mono HB1.out.size))
  have HK2 := Lib.hid (HK1.out.below hb2)
  clear hb2 HR1 HB1 HK1
  go_wp2_with fail
  refine (dev_sum [108] (some ⟨w2.heap.size, 0, none⟩) 2 [s, numB i.toNat] _ (at_2 w2 _ _) (fun h => by cases h) (by simp) HP.out (HK2.out.below ((Below.refl _ _).alloc (Nat.le_refl _) _))).mono ?_
  rintro e w3 ⟨rfl, hb3⟩
  have hb : Below w2.heap.size w2 w3 := ((Below.refl _ w2).alloc (Nat.le_refl _) _).trans (hb3.mono (by simp))
  have HR3 := Lib.hid (HR2.out.below hb)
  have HB3 := Lib.hid (HB2.out.trans (hb.mono HB2.out.size))
  clear hb hb3 HR2 HB2 HK2
  go_wp2_with fail
  refine (dev_cut _ w3 (shaN_len _)).mono ?_
  rintro e w4 ⟨rfl, hb4⟩
  have HR4 := Lib.hid (HR3.out.below hb4)
  have HB4 := Lib.hid (HB3.out.trans (hb4.mono HB3.out.size))
  clear hb4 HR3 HB3
  rw [show (shaN (listB [[108], s, numB i.toNat])).take 16 = keyN s i from rfl]
  have HI := Lib.hid (show (Tryz.prog.info? 29).map (·.size) = some (keyN s i).length by rw [keyN_len]; exact Tryz.infoE)
  have HL2 := Lib.hid (show (List.replicate 16 0).length = (keyN s i).length by rw [keyN_len]; rfl)
  go_wp2_with (refine wpList_store_nums rfl 29 _ _ rfl rfl w.heap.size .u8 _ (keyN s i) 29 rfl rfl HR4.out HI.out HL2.out ?_)
  intro w7 hc' hb'
  have HC7 := Lib.hid (show Blk w.heap.size 29 .u8 (keyN s i) w7 from hc'.out)
  have HB7 := Lib.hid (show Below w.heap.size w w7 from But.toBelow HB4.out hb'.out (by omega) HB4.out.size)
  clear hc' hb'
  go_wp2_with fail
  exact bodyPost_ret (results_nums rfl _ _ w.heap.size .u8 _ 29 _ rfl HC7.out Tryz.underlying29 rfl HI.out) rfl ⟨rfl, HB7.out⟩
set_option maxHeartbeats 4000000 in
theorem ref_num4 (i : Int) (w : World) (hi0 : -9223372036854775808 ≤ i) (hi : i ≤ 9223372036854775807) :
    Calls Tryz.prog 93 #[.int .i64 i] w fun e w' => e = .returned (.string ⟨(numB i.toNat).toArray⟩) ∧ Below w.heap.size w w' := by
  go_enter Tryz.func93, Tryz.ntmps93
  by_cases hn : i < 0
  · go_wp2_with fail
    refine (rnumref_any 0 _ (by decide)).mono ?_
    rintro e w1 ⟨rfl, hb1⟩
    rw [show numB 0 = numB i.toNat by rw [show i.toNat = 0 by omega]]
    have HB1 := Lib.hid hb1
    clear hb1
    go_wp2_with fail
    go_ret
    exact ⟨rfl, HB1.out⟩
  · obtain ⟨n, rfl⟩ : ∃ n : Nat, i = n := ⟨i.toNat, by omega⟩
    go_wp2_with fail
    refine (rnumref_any n _ (by omega)).mono ?_
    rintro e w1 ⟨rfl, hb1⟩
    have HB1 := Lib.hid hb1
    clear hb1
    go_wp2_with fail
    go_ret
    exact ⟨by rw [Int.toNat_natCast]; rfl, HB1.out⟩
set_option maxHeartbeats 4000000 in
set_option maxRecDepth 100000 in
theorem ref_of4 (s : List UInt8) (i : Int) (w : World) (hs : s.length ≤ 4000) (hi0 : -9223372036854775808 ≤ i) (hi : i ≤ 9223372036854775807) :
    Calls Tryz.prog 68 #[.string ⟨s.toArray⟩, .int .i64 i] w fun e w' => e = .returned (.agg (nums .u8 (keyN s i)).toArray) ∧ Below w.heap.size w w' := by
  have HS := Lib.hid hs
  clear hs
  go_enter Tryz.func68, Tryz.ntmps68
  go_upto_region 1 with (fail)
  change Code.wp _ _ _ _ (w.alloc (.cells (nums .u8 (List.replicate 16 0)).toArray 29))
  obtain ⟨w1, hw1⟩ : ∃ x', x' = w.alloc (.cells (nums .u8 (List.replicate 16 0)).toArray 29) := ⟨_, rfl⟩
  rw [← hw1]
  have HB1 := Lib.hid (show Below w.heap.size w w1 by rw [hw1]; exact (Below.refl _ _).alloc (Nat.le_refl _) _)
  have HR1 := Lib.hid (show Blk w.heap.size 29 .u8 (List.replicate 16 0) w1 by rw [hw1]; exact heap_alloc_new w _)
  have h1 := numB_length_9 (n := i.toNat) (by omega)
  have HP := Lib.hid (parts3_of (p := [108]) (a := s) (b := numB i.toNat) (by decide) HS.out (by omega))
  clear hw1 h1
  go_wp2_with fail
  refine (ref_num4 i _ hi0 hi).mono ?_
  rintro e w2 ⟨rfl, hb2⟩
  have HR2 := Lib.hid (HR1.out.below hb2)
  have HB2 := Lib.hid (HB1.out.trans (hb2.mono HB1.out.size))
  clear hb2 HR1 HB1
  go_wp2_with fail
  refine (ref_sum [108] (some ⟨w2.heap.size, 0, none⟩) 2 [s, numB i.toNat] _ (at_2 w2 _ _) (fun h => by cases h) (by simp) HP.out).mono ?_
  rintro e w3 ⟨rfl, hb3⟩
  have hb : Below w2.heap.size w2 w3 := ((Below.refl _ w2).alloc (Nat.le_refl _) _).trans (hb3.mono (by simp))
  have HR3 := Lib.hid (HR2.out.below hb)
  have HB3 := Lib.hid (HB2.out.trans (hb.mono HB2.out.size))
  clear hb hb3 HR2 HB2
  go_wp2_with fail
  refine (ref_cut _ w3 (shaN_len _)).mono ?_
  rintro e w4 ⟨rfl, hb4⟩
  have HR4 := Lib.hid (HR3.out.below hb4)
  have HB4 := Lib.hid (HB3.out.trans (hb4.mono HB3.out.size))
  clear hb4 HR3 HB3
  rw [show (shaN (listB [[108], s, numB i.toNat])).take 16 = keyN s i from rfl]
  have HI := Lib.hid (show (Tryz.prog.info? 29).map (·.size) = some (keyN s i).length by rw [keyN_len]; exact Tryz.infoE)
  have HL2 := Lib.hid (show (List.replicate 16 0).length = (keyN s i).length by rw [keyN_len]; rfl)
  go_wp2_with (refine wpList_store_nums rfl 29 _ _ rfl rfl w.heap.size .u8 _ (keyN s i) 29 rfl rfl HR4.out HI.out HL2.out ?_)
  intro w7 hc' hb'
  have HC7 := Lib.hid (show Blk w.heap.size 29 .u8 (keyN s i) w7 from hc'.out)
  have HB7 := Lib.hid (show Below w.heap.size w w7 from But.toBelow HB4.out hb'.out (by omega) HB4.out.size)
  clear hc' hb'
  go_wp2_with fail
  exact bodyPost_ret (results_nums rfl _ _ w.heap.size .u8 _ 29 _ rfl HC7.out Tryz.underlying29 rfl HI.out) rfl ⟨rfl, HB7.out⟩
end Go.Proofs.YtpfhlhcnmeodbaaGreatDoor
namespace Go.Proofs.YtpfhlhcnmeodbaaGreatDoor
open Go.RowKit Go.ChangeShapes Go.WideShapes
def Elems (L : List (List Nat)) : Prop := ∀ x ∈ L, x.length = 16 ∧ ∀ y ∈ x, y < 256
theorem Elems.getD {L : List (List Nat)} (h : Elems L) {i : Nat} (hi : i < L.length) : (L.getD i []).length = 16 ∧ ∀ y ∈ L.getD i [], y < 256 := by
  rw [List.getD_eq_getElem?_getD, List.getElem?_eq_getElem hi]
  exact h _ (List.getElem_mem hi)
theorem Elems.append {L M : List (List Nat)} (h : Elems L) (k : Elems M) : Elems (L ++ M) := fun x hx => (List.mem_append.1 hx).elim (h x) (k x)
theorem Elems.one {x : List Nat} (h : x.length = 16) (k : ∀ y ∈ x, y < 256) : Elems [x] := fun z hz => by
  obtain rfl := List.mem_singleton.1 hz
  exact ⟨h, k⟩
theorem Elems.take {L : List (List Nat)} (h : Elems L) (n : Nat) : Elems (L.take n) := fun x hx => h x (List.mem_of_mem_take hx)
def EAt (ao : Option Addr) (L : List (List Nat)) (w : World) : Prop :=
  L = [] ∨ ∃ b o, ao = some ⟨b, o, none⟩ ∧ b < w.heap.size ∧ ∀ i, i < L.length → w.rangeAt b (o + 16 * i) (nums .u8 (L.getD i []))
theorem EAt.below {ao : Option Addr} {L : List (List Nat)} {w w' : World} (h : EAt ao L w) (hb : Below w.heap.size w w') : EAt ao L w' := by
  rcases h with h | ⟨b, o, h1, h2, h3⟩
  · exact .inl h
  · exact .inr ⟨b, o, h1, Nat.lt_of_lt_of_le h2 hb.size, fun i hi j v hv => (hb.cell (p := ⟨b, o + 16 * i + j, none⟩) h2).trans (h3 i hi j v hv)⟩
theorem EAt.get {b o : Nat} {L : List (List Nat)} {w : World} (h : EAt (some ⟨b, o, none⟩) L w) {i : Nat} (hi : i < L.length) : w.rangeAt b (o + i * 16) (nums .u8 (L.getD i [])) := by
  rcases h with rfl | ⟨b', o', h1, _, h3⟩
  · cases hi
  · simp only [Option.some.injEq, Addr.mk.injEq] at h1
    obtain ⟨rfl, rfl, _⟩ := h1
    rw [Nat.mul_comm]
    exact h3 i hi
theorem EAt.some {ao : Option Addr} {L : List (List Nat)} {w : World} (h : EAt ao L w) (h0 : 0 < L.length) : ∃ b o, ao = some ⟨b, o, none⟩ ∧ b < w.heap.size := by
  rcases h with rfl | ⟨b, o, h1, h2, _⟩
  · cases h0
  · exact ⟨b, o, h1, h2⟩
def flatE (L : List (List Nat)) : List Value := L.flatMap (nums .u8)
theorem flatE_len {L : List (List Nat)} (h : Elems L) : (flatE L).length = L.length * 16 := by
  induction L with
  | nil => rfl
  | cons x L ih =>
    have h1 := (h x (by simp)).1
    have h2 := ih fun y hy => h y (by simp [hy])
    simp only [flatE, List.flatMap_cons, List.length_append, nums_len, List.length_cons] at *
    omega
theorem flatE_append (L M : List (List Nat)) : flatE (L ++ M) = flatE L ++ flatE M := by simp [flatE]
theorem flatE_one (x : List Nat) : flatE [x] = nums .u8 x := by simp [flatE]
theorem flatE_all (L : List (List Nat)) : ∀ u ∈ flatE L, u.oneCell' = true := by
  intro u hu
  simp only [flatE, List.mem_flatMap] at hu
  obtain ⟨x, _, hx⟩ := hu
  exact nums_one .u8 x u hx
theorem flatE_get {L : List (List Nat)} (h : Elems L) : ∀ {i j : Nat}, i < L.length → j < 16 → (flatE L)[16 * i + j]? = (nums .u8 (L.getD i []))[j]? := by
  induction L with
  | nil => intro i j hi _; cases hi
  | cons x L ih =>
    intro i j hi hj
    have h1 := (h x (by simp)).1
    have hx : (nums .u8 x).length = 16 := by rw [nums_len, h1]
    rw [flatE, List.flatMap_cons]
    cases i with
    | zero => rw [Nat.mul_zero, Nat.zero_add, List.getElem?_append_left (by omega)]; rfl
    | succ i =>
      rw [List.getElem?_append_right (by omega), hx, show 16 * (i + 1) + j - 16 = 16 * i + j by omega]
      exact ih (fun y hy => h y (by simp [hy])) (by simpa using hi) hj
def OwnE (B : Nat) (e : TypeId) (v : Value) (L : List (List Nat)) (w : World) : Prop := w.ownsRow B e 16 v L.length (flatE L)
theorem OwnE.nil (B : Nat) (e : TypeId) (w : World) : OwnE B e (.slice none 0 0) [] w := World.ownsRow_nil _ _ _ _
theorem OwnE.form {B : Nat} {e : TypeId} {v : Value} {L : List (List Nat)} {w : World} (h : OwnE B e v L w) : ∃ ao cap, v = .slice ao L.length cap := by
  rcases h.2 with ⟨h1, h2⟩ | ⟨g, cap, _, h1, _⟩
  · exact ⟨_, _, by rw [h1, h2]⟩
  · exact ⟨_, _, h1⟩
theorem OwnE.formB {B : Nat} {e : TypeId} {v : Value} {L : List (List Nat)} {w : World} (h : OwnE B e v L w) (h0 : 0 < L.length) : ∃ g cap, v = .slice (some ⟨g, 0, none⟩) L.length cap ∧ B ≤ g ∧ g < w.heap.size := by
  rcases h.2 with ⟨_, h2⟩ | ⟨g, cap, cur, h1, h2, h3, _⟩
  · omega
  · exact ⟨g, cap, h1, h2, lt_of_block h3⟩
theorem OwnE.below {B : Nat} {e : TypeId} {v : Value} {L : List (List Nat)} {w w' : World} (h : OwnE B e v L w) (b : Below w.heap.size w w') : OwnE B e v L w' := by
  refine ⟨h.1, ?_⟩
  rcases h.2 with h2 | ⟨g, cap, cur, h1, h2, h3, h4⟩
  · exact .inl h2
  · exact .inr ⟨g, cap, cur, h1, h2, (b.block g (lt_of_block h3)).trans h3, h4⟩
theorem OwnE.mono {B B' : Nat} {e : TypeId} {v : Value} {L : List (List Nat)} {w : World} (h : OwnE B e v L w) (hB : B' ≤ B) : OwnE B' e v L w := by
  refine ⟨h.1, ?_⟩
  rcases h.2 with h2 | ⟨g, cap, cur, h1, h2, h3⟩
  · exact .inl h2
  · exact .inr ⟨g, cap, cur, h1, Nat.le_trans hB h2, h3⟩
theorem OwnE.at {B : Nat} {e : TypeId} {ao : Option Addr} {n c : Nat} {L : List (List Nat)} {w : World} (h : OwnE B e (.slice ao n c) L w) (hL : Elems L) : EAt ao L w := by
  by_cases h0 : L = []
  · exact .inl h0
  · obtain ⟨g, cap, hv, _, hg⟩ := h.formB (List.length_pos_iff.2 h0)
    obtain rfl : ao = some ⟨g, 0, none⟩ := by injection hv
    refine .inr ⟨g, 0, rfl, hg, fun i hi j v hj => ?_⟩
    have hc := World.ownsRow.cells h (g := g) rfl (16 * i + j) v
    have hj16 : j < 16 := by
      have := (List.getElem?_eq_some_iff.1 hj).1
      rw [nums_len, (hL.getD hi).1] at this
      exact this
    rw [flatE_get hL hi hj16, Addr.add_lit, Nat.zero_add] at hc
    rw [Nat.zero_add]
    exact hc hj
theorem wpList_append_elems {P : Program} {w : World} {ops : Array Oper} {rest : List Oper} {o : Oper} {a : Act} {Q : Exit → Act → World → Prop} (hgd : o.guard = none) (s x : Operand) (t e : TypeId)
    (ho : o.op = .call { callee := .builtin .append, args := #[s, x], argTypes := #[t, t] })
    (B : Nat) (z : Value) (hzs : z.cells.size = 16) (ht : P.underlying t = some (.slice e)) (hinfo : (P.info? e).map (fun i => (i.zero, i.size, i.bytes)) = some (some z, 16, 16))
    (v : Value) (L M : List (List Nat)) (hM : Elems M) (ad : Addr) (n c : Nat) (hn : n = M.length) (hs : a.eval s = v) (hown : OwnE B e v L w) (hx : a.eval x = .slice (some ad) n c) (hnews : ∀ j u, (flatE M)[j]? = some u → w.cell? (ad.add j) = some u)
    (h63 : L.length + M.length ≤ 8796093022208) (hB : B ≤ w.heap.size)
    (h : ∀ v' w', Hid (OwnE B e v' (L ++ M) w') → Hid (Below B w w') → wpList P ops Q rest (a.put o.dst v') w') : wpList P ops Q (o :: rest) a w := by
  obtain ⟨i, hi, hz0, hz1, hz2⟩ := info_parts hinfo
  subst hn
  refine wpList_append_own_at w hgd s x _ ho B e i z 16 16 ht hi hz0 hz1 hz2 hzs (by decide) v L.length (flatE L) hs hown ad M.length c (flatE M) hx (flatE_len hM) hnews (flatE_all M) (by unfold maxLen; omega) (by omega) hB ?_
  intro v' w' h2 hg _ _
  refine h v' w' ?_ ((Below.refl B w).grown hg hB (fun k hk => (World.ownsRow.lt hown k hk).1))
  show w'.ownsRow B e 16 v' (L ++ M).length (flatE (L ++ M))
  rw [List.length_append, flatE_append]
  exact h2
theorem wpList_load_elem {P : Program} {ops : Array Oper} {rest : List Oper} {o : Oper} {a : Act} {w : World} {Q : Exit → Act → World → Prop} (hgd : o.guard = none) (ty : TypeId) (x : Operand) (ho : o.op = .load ty x)
    (b off : Nat) (l : List Nat) (d : TypeDesc) (hx : a.eval x = .pointer (some ⟨b, off, none⟩)) (hc : w.rangeAt b off (nums .u8 l))
    (hu : P.underlying ty = some d) (hd : d.isRow = true) (hi : (P.info? ty).map (·.size) = some l.length)
    (h : wpList P ops Q rest (a.put o.dst (.agg (nums .u8 l).toArray)) w) : wpList P ops Q (o :: rest) a w :=
  wpList_load_mid hgd ty x ho b off hx _ d hc hu hd (by rw [nums_len]; exact hi) h
theorem quiet_load_elem {P : Program} {o : Oper} {a : Act} {C : World → Prop} {K : Act → Prop} (ty : TypeId) (x : Operand) (ho : o.op = .load ty x) (b off : Nat) (l : List Nat) (d : TypeDesc)
    (hx : a.eval x = .pointer (some ⟨b, off, none⟩)) (hC : ∀ w, C w → w.rangeAt b off (nums .u8 l)) (hu : P.underlying ty = some d) (hd : d.isRow = true) (hi : (P.info? ty).map (·.size) = some l.length)
    (hk : K (a.put o.dst (.agg (nums .u8 l).toArray))) : o.quiet P a C K := by
  refine ⟨_, fun w hw => ?_, hk⟩
  unfold Oper.quietAt execOp
  simp only [ho, hx, Instr.loadAt, Instr.sureAddr, Sem.run_bind, Sem.run_pure, Result.andThen_ok, run_loadVar_mid w b off ty _ d (hC w hw) hu hd (by rw [nums_len]; exact hi)]
  exact ⟨rfl, rfl⟩
theorem op_load_elem {P : Program} {o : Oper} {a : Act} {w : World} {K : Act → World → Prop} {Q : Exit → Act → World → Prop} (ty : TypeId) (x : Operand) (ho : o.op = .load ty x) (b off : Nat) (l : List Nat) (d : TypeDesc)
    (hx : a.eval x = .pointer (some ⟨b, off, none⟩)) (hc : w.rangeAt b off (nums .u8 l)) (hu : P.underlying ty = some d) (hd : d.isRow = true) (hi : (P.info? ty).map (·.size) = some l.length)
    (h : K (a.put o.dst (.agg (nums .u8 l).toArray)) w) : OpWp P o a w K Q := by
  refine ⟨?_⟩
  unfold Oper.wp execOp
  simp only [ho, hx, Instr.loadAt, Instr.sureAddr, Sem.run_bind, Sem.run_pure, Result.andThen_ok, run_loadVar_mid w b off ty _ d hc hu hd (by rw [nums_len]; exact hi)]
  exact h
theorem Elems.set {L : List (List Nat)} (h : Elems L) (i : Nat) {x : List Nat} (hx : x.length = 16) (lx : ∀ y ∈ x, y < 256) : Elems (L.set i x) := fun z hz => by
  rcases List.mem_or_eq_of_mem_set hz with hz | rfl
  · exact h z hz
  · exact ⟨hx, lx⟩
theorem Elems.zeros (n : Nat) : Elems (List.replicate n (List.replicate 16 0)) := fun z hz => by
  obtain rfl := (List.mem_replicate.1 hz).2
  exact ⟨rfl, by decide⟩
theorem flatE_zeros (n : Nat) : flatE (List.replicate n (List.replicate 16 0)) = List.replicate (n * 16) (.int .u8 0) := by
  induction n with
  | zero => rfl
  | succ n ih =>
    rw [List.replicate_succ, flatE, List.flatMap_cons]
    rw [show nums .u8 (List.replicate 16 0) = List.replicate 16 (.int .u8 0) from rfl]
    have ih' : List.flatMap (nums .u8) (List.replicate n (List.replicate 16 0)) = List.replicate (n * 16) (.int .u8 0) := ih
    rw [ih', List.replicate_append_replicate]
    congr 1
    omega
theorem madeCells_16 (n : Nat) : (madeCells (Value.agg (nums .u8 (List.replicate 16 0)).toArray).cells (n * 16)).toList = flatE (List.replicate n (List.replicate 16 0)) := by
  rw [flatE_zeros]
  refine List.ext_getElem (by simp [madeCells]) fun j h1 h2 => ?_
  have hz : (Value.agg (nums .u8 (List.replicate 16 0)).toArray).cells = Array.replicate 16 (.int .u8 0) := rfl
  simp only [madeCells, hz, Array.getElem_toList, Array.getElem_map, Array.getElem_range, List.getElem_replicate, Array.size_replicate]
  have hj : j % 16 < 16 := Nat.mod_lt _ (by decide)
  rw [getElem!_pos _ _ (by simpa using hj), Array.getElem_replicate]
theorem OwnE.made {B g n : Nat} {e : TypeId} {w : World} (h : w.ownsRow B e 16 (.slice (some ⟨g, 0, none⟩) n n) n (madeCells (Value.agg (nums .u8 (List.replicate 16 0)).toArray).cells (n * 16)).toList) :
    OwnE B e (.slice (some ⟨g, 0, none⟩) n n) (List.replicate n (List.replicate 16 0)) w := by
  unfold OwnE
  rw [List.length_replicate, ← madeCells_16]
  exact h
def layL (xs : List Value) : Nat → List Value → List Value
  | _, [] => xs
  | o, v :: r => layL (xs.set o v) (o + 1) r
theorem layL_get : ∀ (vs : List Value) (xs : List Value) (o j : Nat), o + vs.length ≤ xs.length → (layL xs o vs)[j]? = if o ≤ j ∧ j < o + vs.length then vs[j - o]? else xs[j]?
  | [], xs, o, j, _ => by rw [layL, if_neg (by simp only [List.length_nil]; omega)]
  | v :: r, xs, o, j, h => by
    simp only [List.length_cons] at h ⊢
    rw [layL, layL_get r (xs.set o v) (o + 1) j (by rw [List.length_set]; omega)]
    by_cases h1 : o + 1 ≤ j ∧ j < o + 1 + r.length
    · rw [if_pos h1, if_pos (by omega), show j - o = (j - (o + 1)) + 1 by omega, List.getElem?_cons_succ]
    · rw [if_neg h1]
      by_cases h2 : j = o
      · subst h2
        rw [if_pos (by omega), Nat.sub_self, List.getElem?_set_self (by omega)]
        rfl
      · rw [if_neg (by omega), List.getElem?_set_ne (by omega)]
theorem flatE_set {L : List (List Nat)} (hL : Elems L) {i : Nat} (hi : i < L.length) {x : List Nat} (hx : x.length = 16) (lx : ∀ y ∈ x, y < 256) : flatE (L.set i x) = layL (flatE L) (16 * i) (nums .u8 x) := by
  have hnx : (nums .u8 x).length = 16 := by rw [nums_len, hx]
  have hfl := flatE_len hL
  have hS := hL.set i hx lx
  have hfs := flatE_len hS
  rw [List.length_set] at hfs
  refine List.ext_getElem? fun j => ?_
  rw [layL_get _ _ _ _ (by rw [hnx, hfl]; omega), hnx]
  rcases Nat.lt_or_ge j (L.length * 16) with hj | hj
  · obtain ⟨q, m, rfl, hm⟩ : ∃ q m, j = 16 * q + m ∧ m < 16 := ⟨j / 16, j % 16, by omega, Nat.mod_lt _ (by decide)⟩
    rw [flatE_get hS (by rw [List.length_set]; omega) hm, flatE_get hL (by omega) hm]
    by_cases hq : q = i
    · subst hq
      rw [if_pos (by omega), show 16 * q + m - 16 * q = m by omega]
      simp [List.getD_eq_getElem?_getD, List.getElem?_set_self hi]
    · rw [if_neg (by omega)]
      simp [List.getD_eq_getElem?_getD, List.getElem?_set_ne (Ne.symm hq)]
  · rw [if_neg (by omega), List.getElem?_eq_none (by omega), List.getElem?_eq_none (by omega)]
theorem ownsRow_lay {B g n c size : Nat} {e : TypeId} : ∀ (vs xs : List Value) (o : Nat) (w : World), w.ownsRow B e size (.slice (some ⟨g, 0, none⟩) n c) n xs → (w.setCells g o vs).ownsRow B e size (.slice (some ⟨g, 0, none⟩) n c) n (layL xs o vs)
  | [], _, _, _, h => h
  | v :: r, _, o, _, h => ownsRow_lay r _ (o + 1) _ (World.ownsRow.stored h o v).1
theorem OwnE.set {B g n c i : Nat} {e : TypeId} {L : List (List Nat)} {w : World} (hn : n = L.length) (h : OwnE B e (.slice (some ⟨g, 0, none⟩) n c) L w) (hL : Elems L) (hi : i < n) {x : List Nat} (hx : x.length = 16) (lx : ∀ y ∈ x, y < 256) :
    OwnE B e (.slice (some ⟨g, 0, none⟩) n c) (L.set i x) (w.setCells g (16 * i) (nums .u8 x)) := by
  subst hn
  have h1 := ownsRow_lay (nums .u8 x) _ (16 * i) w h
  unfold OwnE
  rw [List.length_set, flatE_set hL hi hx lx]
  exact h1
theorem OwnE.there {B g n c i : Nat} {e : TypeId} {L : List (List Nat)} {w : World} (hn : n = L.length) (h : OwnE B e (.slice (some ⟨g, 0, none⟩) n c) L w) (hL : Elems L) (hi : i < n) : w.there g (16 * i) 16 := by
  subst hn
  intro j hj
  exact ⟨by rw [World.ownsRow.cellAt h (16 * i + j) (by omega), List.getElem?_eq_getElem (by rw [flatE_len hL]; omega)]; rfl, World.ownsRow.frozenAt h (16 * i + j)⟩
theorem But.setCells {b : Nat} {w : World} : ∀ (vs : List Value) (o : Nat) (w' : World), But b w w' → But b w (w'.setCells b o vs)
  | [], _, _, h => h
  | v :: r, o, _, h => But.setCells r (o + 1) _ (h.setCell o v)
theorem wpList_store_elem {P : Program} {w : World} {ops : Array Oper} {rest : List Oper} {o : Oper} {a : Act} {Q : Exit → Act → World → Prop} (hgd : o.guard = none) (ty : TypeId) (x y : Operand) (ho : o.op = .store ty x y) (hd : o.dst = none)
    (B g n c i off : Nat) (e : TypeId) (L : List (List Nat)) (l : List Nat) (hn : n = L.length) (hoff : off = 16 * i) (hx : a.eval x = .pointer (some ⟨g, off, none⟩)) (hy : a.eval y = .agg (nums .u8 l).toArray)
    (hO : OwnE B e (.slice (some ⟨g, 0, none⟩) n c) L w) (hL : Elems L) (hi : i < n) (hl : l.length = 16) (ll : ∀ y ∈ l, y < 256) (hty : (P.info? ty).map (·.size) = some 16)
    (h : ∀ w', Hid (OwnE B e (.slice (some ⟨g, 0, none⟩) n c) (L.set i l) w') → Hid (But g w w') → wpList P ops Q rest a w') : wpList P ops Q (o :: rest) a w := by
  subst hoff
  have hs : (nums .u8 l).toArray.size = 16 := by rw [List.size_toArray, nums_len, hl]
  refine wpList_store_mid hgd ty x y ho g (16 * i) _ hx hy (by rw [hs]; exact hO.there hn hL hi) (by rw [hs]; exact hty) (all_oneCell_toArray (nums_one _ _)) ?_
  rw [hd]
  refine h _ ?_ ?_
  · exact (hO.set hn hL hi hl ll)
  · exact (But.setCells _ _ _ (But.refl _ _))
theorem rangeAt_below {b o B : Nat} {cs : List Value} {w w' : World} (h : w.rangeAt b o cs) (hb : Below B w w') (hB : b < B) : w'.rangeAt b o cs := fun j v hv => (hb.cell (p := ⟨b, o + j, none⟩) hB).trans (h j v hv)
theorem Tryz.infoE16 : (Tryz.prog.info? 29).map (fun i => (i.zero, i.size, i.bytes)) = some (some (.agg (nums .u8 (List.replicate 16 0)).toArray), 16, 16) := by kernel_rfl
theorem wpList_build_elem {P : Program} {ops : Array Oper} {rest : List Oper} {o : Oper} {a : Act} {w : World} {Q : Exit → Act → World → Prop} (hg : o.guard = none) (t e : TypeId) (x : Operand) (ho : o.op = .buildSlice t 1 #[(0, x)])
    (l : List Nat) (hx : a.eval x = .agg (nums .u8 l).toArray) (hl : l.length = 16) (ht : P.underlying t = some (.slice e)) (hinfo : (P.info? e).map (fun i => (i.zero, i.size, i.bytes)) = some (some (.agg (nums .u8 (List.replicate 16 0)).toArray), 16, 16))
    (h : ∀ w', Hid (Blk w.heap.size e .u8 l w') → Hid (Below w.heap.size w w') → wpList P ops Q rest (a.put o.dst (.slice (some ⟨w.heap.size, 0, none⟩) 1 1)) w') : wpList P ops Q (o :: rest) a w := by
  obtain ⟨ie, hi, hz0, hz1, _⟩ := info_parts hinfo
  refine wpList_buildSlice hg t e 1 #[(0, x)] ho (nums .u8 l).toArray ie _ ht hi hz0 (by rw [hz1]; decide) (by rw [hz1]; decide) ?_ (h _ (heap_alloc_new w _) ((Below.refl _ w).alloc (Nat.le_refl _) _))
  rw [hz1]
  have h1 := Great.fill_whole (s := 16) (by decide) [Value.agg (nums .u8 l).toArray] ((Array.range (1 * 16)).map ((Value.agg (nums .u8 (List.replicate 16 0)).toArray).cells[· % (Value.agg (nums .u8 (List.replicate 16 0)).toArray).cells.size]!))
    (fun v hv => by obtain rfl := List.mem_singleton.1 hv; show (nums .u8 l).toArray.size = 16; rw [List.size_toArray, nums_len, hl]) (by simp)
  have e1 : ((#[(0, x)] : Array (Nat × Operand)).map fun (i, x) => (i, a.eval x)).toList = ([Value.agg (nums .u8 l).toArray].zipIdx 0).map fun x => (x.2, x.1) := by
    simp [hx, List.zipIdx_cons]
  have e2 : ([Value.agg (nums .u8 l).toArray].flatMap fun v => v.cells.toList).toArray = (nums .u8 l).toArray := by
    rw [List.flatMap_cons, List.flatMap_nil, List.append_nil]
    rfl
  rw [e1, h1, e2]
theorem take_next {L : List (List Nat)} {k : Nat} (h : k < L.length) : L.take (k + 1) = L.take k ++ [L.getD k []] := by
  rw [List.take_succ_eq_append_getElem h, List.getD_eq_getElem?_getD, List.getElem?_eq_getElem h]
  rfl
theorem take_len {L : List (List Nat)} {k : Nat} (h : k ≤ L.length) : (L.take k).length = k := by rw [List.length_take]; omega
theorem equal_elem (a b : List Nat) (ha : a.length = 16) (hb : b.length = 16) (la : ∀ x ∈ a, x < 256) (lb : ∀ x ∈ b, x < 256) (w : World) :
    (Op.equalIn 10000 29 (.agg (nums .u8 a).toArray) (.agg (nums .u8 b).toArray)).run Tryz.prog w = .ok (a == b) w :=
  equal_nums _ _ _ Tryz.underlying29 Tryz.underlying5 Tryz.sizeOf5 a b ha hb la lb w
end Go.Proofs.YtpfhlhcnmeodbaaGreatDoor
namespace Go.Proofs.YtpfhlhcnmeodbaaGreatDoor
open Go.RowKit
def upN (l r : List Nat) (lev idx : Int) : List Nat := (shaN (listB [[110], txt l ++ txt r, numB lev.toNat, numB idx.toNat])).take 16
theorem upN_len (l r : List Nat) (lev idx : Int) : (upN l r lev idx).length = 16 := by rw [upN, List.length_take, shaN_len]; rfl
theorem upN_lt (l r : List Nat) (lev idx : Int) : ∀ y ∈ upN l r lev idx, y < 256 := fun y hy => shaN_lt _ y (List.mem_of_mem_take hy)
theorem upN_small {l r : List Nat} (hl : l.length = 16) (hr : r.length = 16) {lev idx : Int} (h1 : lev ≤ 9223372036854775807) (h2 : idx ≤ 9223372036854775807) : (listB [[110], txt l ++ txt r, numB lev.toNat, numB idx.toNat]).length ≤ 140737488350000 := by
  have e0 := numB_length_9 (n := [[110], txt l ++ txt r, numB lev.toNat, numB idx.toNat].length) (by simp)
  have n1 := numB_length_9 (n := lev.toNat) (by omega)
  have n2 := numB_length_9 (n := idx.toNat) (by omega)
  have e1 := numB_length_9 (n := ([110] : List UInt8).length) (by decide)
  have e2 := numB_length_9 (n := (txt l ++ txt r).length) (by rw [List.length_append, txt_len, txt_len]; omega)
  have e3 := numB_length_9 (n := (numB lev.toNat).length) (by omega)
  have e4 := numB_length_9 (n := (numB idx.toNat).length) (by omega)
  rw [listB_length]
  simp only [textsB_cons, List.length_append, textB_length, txt_len, hl, hr, List.length_cons, List.length_nil, show textsB [] = [] from rfl] at *
  omega
def atN (L : List (List Nat)) : Nat → Nat → List Nat
  | 0, i => L.getD i []
  | k + 1, i => upN (atN L k (2 * i)) (atN L k (2 * i + 1)) ((k + 1 : Nat) : Int) (i : Int)
theorem atN_ok {L : List (List Nat)} (hL : Elems L) (k i : Nat) (hi : i * 2 ^ k < L.length) : (atN L k i).length = 16 ∧ ∀ y ∈ atN L k i, y < 256 := by
  cases k with
  | zero => exact hL.getD (by simpa using hi)
  | succ k => exact ⟨upN_len _ _ _ _, upN_lt _ _ _ _⟩
def lvl (L : List (List Nat)) (n k : Nat) : List (List Nat) := (List.range (n / 2 ^ k)).map (atN L k)
theorem lvl_len (L : List (List Nat)) (n k : Nat) : (lvl L n k).length = n / 2 ^ k := by simp [lvl]
theorem lvl_zero (L : List (List Nat)) : lvl L L.length 0 = L := by
  refine List.ext_getElem (by simp [lvl]) fun i h1 h2 => ?_
  simp only [lvl, List.getElem_map, List.getElem_range, atN]
  rw [List.getD_eq_getElem?_getD, List.getElem?_eq_getElem h2]
  rfl
theorem lvl_get (L : List (List Nat)) {n k i : Nat} (hi : i < n / 2 ^ k) : (lvl L n k).getD i [] = atN L k i := by
  rw [List.getD_eq_getElem?_getD, List.getElem?_eq_getElem (by rw [lvl_len]; exact hi)]
  simp [lvl]
def pairsN (R : List (List Nat)) (k : Nat) (j : Nat) : List (List Nat) := (List.range j).map fun i => upN (R.getD (2 * i) []) (R.getD (2 * i + 1) []) ((k + 1 : Nat) : Int) (i : Int)
theorem pairsN_len (R : List (List Nat)) (k j : Nat) : (pairsN R k j).length = j := by simp [pairsN]
theorem pairsN_next (R : List (List Nat)) (k j : Nat) : pairsN R k (j + 1) = pairsN R k j ++ [upN (R.getD (2 * j) []) (R.getD (2 * j + 1) []) ((k + 1 : Nat) : Int) (j : Int)] := by
  simp [pairsN, List.range_succ]
theorem lvl_next (L : List (List Nat)) (n k : Nat) : pairsN (lvl L n k) k (n / 2 ^ (k + 1)) = lvl L n (k + 1) := by
  refine List.map_congr_left fun i hi => ?_
  have hi2 : i < n / 2 ^ (k + 1) := List.mem_range.1 hi
  have h2 : n / 2 ^ (k + 1) = n / 2 ^ k / 2 := by rw [Nat.pow_succ, Nat.div_div_eq_div_mul]
  rw [atN, lvl_get L (by omega), lvl_get L (by omega)]
def heightN : Nat → Nat
  | 0 => 0
  | n + 1 => if n = 0 then 0 else heightN ((n + 1) / 2) + 1
decreasing_by omega
theorem heightN_one : heightN 1 = 0 := by simp [heightN]
theorem heightN_next {n : Nat} (h : 1 < n) : heightN n = heightN (n / 2) + 1 := by
  obtain ⟨m, rfl⟩ : ∃ m, n = m + 1 := ⟨n - 1, by omega⟩
  rw [heightN, if_neg (by omega)]
theorem heightN_pow (h : Nat) : heightN (2 ^ h) = h := by
  induction h with
  | zero => exact heightN_one
  | succ h ih =>
    have h1 : 1 ≤ 2 ^ h := Nat.one_le_two_pow
    rw [heightN_next (by rw [Nat.pow_succ]; omega), show 2 ^ (h + 1) / 2 = 2 ^ h by rw [Nat.pow_succ]; omega, ih]
def goodN (n : Nat) : Bool := n == 1 || n == 2 || n == 4 || n == 8 || n == 16 || n == 32 || n == 64 || n == 128 || n == 256
theorem goodN_pow {n : Nat} (h : goodN n = true) : ∃ k, k ≤ 8 ∧ n = 2 ^ k := by
  simp only [goodN, Bool.or_eq_true, beq_iff_eq] at h
  rcases h with (((((((h | h) | h) | h) | h) | h) | h) | h) | h
  · exact ⟨0, by omega, h⟩
  · exact ⟨1, by omega, h⟩
  · exact ⟨2, by omega, h⟩
  · exact ⟨3, by omega, h⟩
  · exact ⟨4, by omega, h⟩
  · exact ⟨5, by omega, h⟩
  · exact ⟨6, by omega, h⟩
  · exact ⟨7, by omega, h⟩
  · exact ⟨8, by omega, h⟩
def sibN (i : Nat) : Nat := if i % 2 = 1 then i - 1 else i + 1
theorem sibN_lt {i m : Nat} (h : i < 2 * m) : sibN i < 2 * m := by unfold sibN; split <;> omega
def pathN (L : List (List Nat)) (i : Nat) (j : Nat) : List (List Nat) := (List.range j).map fun k => atN L k (sibN (i / 2 ^ k))
theorem pathN_len (L : List (List Nat)) (i j : Nat) : (pathN L i j).length = j := by simp [pathN]
theorem pathN_next (L : List (List Nat)) (i j : Nat) : pathN L i (j + 1) = pathN L i j ++ [atN L j (sibN (i / 2 ^ j))] := by simp [pathN, List.range_succ]
def stepN (x y : List Nat) (at' : Int) (k : Nat) : List Nat := if at' % 2 = 0 then upN x y ((k + 1 : Nat) : Int) (at' / 2) else upN y x ((k + 1 : Nat) : Int) (at' / 2)
theorem stepN_len (x y : List Nat) (a : Int) (k : Nat) : (stepN x y a k).length = 16 := by unfold stepN; split <;> exact upN_len _ _ _ _
theorem stepN_lt (x y : List Nat) (a : Int) (k : Nat) : ∀ z ∈ stepN x y a k, z < 256 := by unfold stepN; split <;> exact upN_lt _ _ _ _
def climbN (x : List Nat) (a : Int) (p : List (List Nat)) : Nat → List Nat
  | 0 => x
  | j + 1 => stepN (climbN x a p j) (p.getD j []) (a / 2 ^ j) j
theorem climbN_len {x : List Nat} (hx : x.length = 16) (a : Int) (p : List (List Nat)) (j : Nat) : (climbN x a p j).length = 16 := by
  cases j with
  | zero => exact hx
  | succ j => exact stepN_len _ _ _ _
theorem climbN_lt {x : List Nat} (hx : ∀ y ∈ x, y < 256) (a : Int) (p : List (List Nat)) (j : Nat) : ∀ y ∈ climbN x a p j, y < 256 := by
  cases j with
  | zero => exact hx
  | succ j => exact stepN_lt _ _ _ _
theorem half_next (a : Int) (j : Nat) : a / 2 ^ j / 2 = a / 2 ^ (j + 1) := by
  rw [Int.pow_succ, Int.ediv_ediv_of_nonneg (by exact Int.pow_nonneg (by decide))]
theorem climb_path (L : List (List Nat)) {h i : Nat} : ∀ j, j ≤ h → climbN (L.getD i []) i (pathN L i h) j = atN L j (i / 2 ^ j) := by
  intro j
  induction j with
  | zero => intro _; simp [climbN, atN]
  | succ j ih =>
    intro hj
    have hp : (pathN L i h).getD j [] = atN L j (sibN (i / 2 ^ j)) := by
      rw [List.getD_eq_getElem?_getD, List.getElem?_eq_getElem (by rw [pathN_len]; omega)]
      simp [pathN]
    have e : ((i : Int) / 2 ^ j) = ((i / 2 ^ j : Nat) : Int) := by simp
    have e2 : i / 2 ^ (j + 1) = i / 2 ^ j / 2 := by rw [Nat.pow_succ, Nat.div_div_eq_div_mul]
    rw [climbN, ih (by omega), hp, e, e2]
    generalize i / 2 ^ j = q
    unfold stepN sibN
    by_cases hq : q % 2 = 1
    · rw [if_neg (by omega), if_pos hq, atN, show (q : Int) / 2 = ((q / 2 : Nat) : Int) by omega, show 2 * (q / 2) = q - 1 by omega, show q - 1 + 1 = q by omega]
    · rw [if_pos (by omega), if_neg hq, atN, show (q : Int) / 2 = ((q / 2 : Nat) : Int) by omega, show 2 * (q / 2) = q by omega]
theorem climb_root (L : List (List Nat)) {h i : Nat} (hi : i < 2 ^ h) : climbN (L.getD i []) i (pathN L i h) h = atN L h 0 := by
  rw [climb_path L h (Nat.le_refl _), Nat.div_eq_of_lt hi]
theorem and_one_i64 (a : Int) : (BitVec.ofInt 64 a &&& BitVec.ofInt 64 1).toNat = (a % 2).toNat := by
  rw [BitVec.toNat_and, BitVec.toNat_ofInt, BitVec.toNat_ofInt]
  rw [show ((1 : Int) % ((2 ^ 64 : Nat) : Int)).toNat = 1 by decide, Nat.and_one_is_mod]
  omega
theorem xor_one_i64 {q : Nat} (h : q < 256) : (BitVec.ofInt 64 (q : Int) ^^^ BitVec.ofInt 64 1).toNat = sibN q := by
  have key : ∀ q : Fin 256, (BitVec.ofInt 64 (q.val : Int) ^^^ BitVec.ofInt 64 1).toNat = sibN q.val := by decide +kernel
  exact key ⟨q, h⟩
theorem lvl_ok {L : List (List Nat)} (hL : Elems L) {n k : Nat} (hn : n = L.length) (h2 : ∃ h, n = 2 ^ h ∧ k ≤ h) : Elems (lvl L n k) := by
  intro x hx
  obtain ⟨i, hi, rfl⟩ := List.mem_map.1 hx
  obtain ⟨h, rfl, hk⟩ := h2
  refine atN_ok hL k i ?_
  have hi2 := List.mem_range.1 hi
  rw [← hn]
  rw [Nat.pow_div hk (by decide)] at hi2
  have h3 : (i + 1) * 2 ^ k ≤ 2 ^ (h - k) * 2 ^ k := Nat.mul_le_mul_right _ hi2
  rw [← Nat.pow_add, Nat.sub_add_cancel hk, Nat.add_mul, Nat.one_mul] at h3
  have h4 : 1 ≤ 2 ^ k := Nat.one_le_two_pow
  omega
theorem pairs_ok (R : List (List Nat)) (k j : Nat) : Elems (pairsN R k j) := by
  intro x hx
  obtain ⟨i, _, rfl⟩ := List.mem_map.1 hx
  exact ⟨upN_len _ _ _ _, upN_lt _ _ _ _⟩
def partP (R : List (List Nat)) (k m j : Nat) : List (List Nat) := pairsN R k j ++ List.replicate (m - j) (List.replicate 16 0)
theorem partP_len (R : List (List Nat)) (k : Nat) {m j : Nat} (h : j ≤ m) : (partP R k m j).length = m := by
  rw [partP, List.length_append, pairsN_len, List.length_replicate]; omega
theorem partP_zero (R : List (List Nat)) (k m : Nat) : partP R k m 0 = List.replicate m (List.replicate 16 0) := by simp [partP, pairsN]
theorem partP_full (R : List (List Nat)) (k m : Nat) : partP R k m m = pairsN R k m := by simp [partP]
theorem partP_ok (R : List (List Nat)) (k m j : Nat) : Elems (partP R k m j) := (pairs_ok R k j).append (Elems.zeros _)
theorem partP_set (R : List (List Nat)) (k : Nat) {m j : Nat} (h : j < m) : (partP R k m j).set j (upN (R.getD (2 * j) []) (R.getD (2 * j + 1) []) ((k + 1 : Nat) : Int) (j : Int)) = partP R k m (j + 1) := by
  rw [partP, partP, pairsN_next, List.set_append_right _ _ (by rw [pairsN_len]; omega), pairsN_len, Nat.sub_self, show m - j = (m - (j + 1)) + 1 by omega, List.replicate_succ, List.set_cons_zero, List.append_assoc]
  rfl
theorem pathN_ok {L : List (List Nat)} (hL : Elems L) {h i j : Nat} (hn : L.length = 2 ^ h) (hi : i < L.length) (hj : j ≤ h) : Elems (pathN L i j) := by
  intro x hx
  obtain ⟨k, hk, rfl⟩ := List.mem_map.1 hx
  have hk2 := List.mem_range.1 hk
  have h1 : 2 ^ h = 2 ^ (h - k) * 2 ^ k := by rw [← Nat.pow_add, Nat.sub_add_cancel (by omega)]
  have h2 : i / 2 ^ k < 2 ^ (h - k) := by
    rw [Nat.div_lt_iff_lt_mul (Nat.two_pow_pos k), ← h1, ← hn]; exact hi
  have h3 : sibN (i / 2 ^ k) < 2 ^ (h - k) := by
    obtain ⟨m, hm⟩ : ∃ m, 2 ^ (h - k) = 2 * m := ⟨2 ^ (h - k - 1), by rw [← Nat.pow_succ']; congr 1; omega⟩
    rw [hm] at h2 ⊢
    exact sibN_lt h2
  refine atN_ok hL k _ ?_
  rw [hn, h1]
  exact Nat.mul_lt_mul_of_pos_right h3 (Nat.two_pow_pos k)
theorem sib_lt {h k i : Nat} (hk : k < h) (hi : i < 2 ^ h) : sibN (i / 2 ^ k) < 2 ^ h / 2 ^ k := by
  rw [Nat.pow_div (by omega) (by decide)]
  have h1 : 2 ^ h = 2 ^ (h - k) * 2 ^ k := by rw [← Nat.pow_add, Nat.sub_add_cancel (by omega)]
  have h2 : i / 2 ^ k < 2 ^ (h - k) := by
    rw [Nat.div_lt_iff_lt_mul (Nat.two_pow_pos k), ← h1]; exact hi
  obtain ⟨m, hm⟩ : ∃ m, 2 ^ (h - k) = 2 * m := ⟨2 ^ (h - k - 1), by rw [← Nat.pow_succ']; congr 1; omega⟩
  rw [hm] at h2 ⊢
  exact sibN_lt h2
theorem goodN_le {n : Nat} (h : goodN n = true) : n ≤ 256 := by
  simp only [goodN, Bool.or_eq_true, beq_iff_eq] at h
  omega
def partR (L : List (List Nat)) (i m j : Nat) : List (List Nat) := pathN L i j ++ List.replicate (m - j) (List.replicate 16 0)
theorem partR_len (L : List (List Nat)) (i : Nat) {m j : Nat} (h : j ≤ m) : (partR L i m j).length = m := by
  rw [partR, List.length_append, pathN_len, List.length_replicate]; omega
theorem partR_zero (L : List (List Nat)) (i m : Nat) : partR L i m 0 = List.replicate m (List.replicate 16 0) := by simp [partR, pathN]
theorem partR_full (L : List (List Nat)) (i m : Nat) : partR L i m m = pathN L i m := by simp [partR]
theorem partR_set (L : List (List Nat)) (i : Nat) {m j : Nat} (h : j < m) : (partR L i m j).set j (atN L j (sibN (i / 2 ^ j))) = partR L i m (j + 1) := by
  rw [partR, partR, pathN_next, List.set_append_right _ _ (by rw [pathN_len]; omega), pathN_len, Nat.sub_self, show m - j = (m - (j + 1)) + 1 by omega, List.replicate_succ, List.set_cons_zero, List.append_assoc]
  rfl
end Go.Proofs.YtpfhlhcnmeodbaaGreatDoor
namespace Go.Proofs.YtpfhlhcnmeodbaaGreatDoor
open Go.RowKit
def digK (root : List Nat) (i : Int) (text : List UInt8) : List Nat := (shaN (listB [[116, 101, 120, 116], txt root, numB i.toNat, text])).take 16
theorem digK_len (root : List Nat) (i : Int) (text : List UInt8) : (digK root i text).length = 16 := by rw [digK, List.length_take, shaN_len]; rfl
theorem digK_lt (root : List Nat) (i : Int) (text : List UInt8) : ∀ y ∈ digK root i text, y < 256 := fun y hy => shaN_lt _ y (List.mem_of_mem_take hy)
theorem digK_small {root : List Nat} (hr : root.length = 16) {i : Int} (hi : i ≤ 9223372036854775807) {text : List UInt8} (ht : text.length ≤ 1000000) : (listB [[116, 101, 120, 116], txt root, numB i.toNat, text]).length ≤ 140737488350000 := by
  have e0 := numB_length_9 (n := [[116, 101, 120, 116], txt root, numB i.toNat, text].length) (by simp)
  have n1 := numB_length_9 (n := i.toNat) (by omega)
  have e1 := numB_length_9 (n := ([116, 101, 120, 116] : List UInt8).length) (by decide)
  have e2 := numB_length_9 (n := (txt root).length) (by rw [txt_len]; omega)
  have e3 := numB_length_9 (n := (numB i.toNat).length) (by omega)
  have e4 := numB_length_9 (n := text.length) (by omega)
  rw [listB_length]
  simp only [textsB_cons, List.length_append, textB_length, txt_len, hr, List.length_cons, List.length_nil, show textsB [] = [] from rfl] at *
  omega
def wideN (h : Int) : Nat := if h < 1 ∨ 8 < h then 0 else 2 ^ h.toNat
theorem wideN_ok {h : Nat} (h1 : 1 ≤ h) (h8 : h ≤ 8) : wideN h = 2 ^ h := by
  rw [wideN, if_neg (by omega), Int.toNat_natCast]
theorem wideN_zero {h : Int} (hb : h < 1 ∨ 8 < h) : wideN h = 0 := if_pos hb
theorem wideN_le (h : Int) : wideN h ≤ 256 := by
  unfold wideN
  split
  · omega
  · exact Nat.le_trans (Nat.pow_le_pow_right (by decide) (show h.toNat ≤ 8 by omega)) (by decide)
theorem leafN_len (seed : List UInt8) (i : Int) : (leafN seed i).length = 16 := keyN_len _ _
theorem leafN_lt (seed : List UInt8) (i : Int) : ∀ y ∈ leafN seed i, y < 256 := keyN_lt _ _
def leavesN (seed : List UInt8) (n : Nat) : List (List Nat) := (List.range n).map fun (i : Nat) => leafN seed (i : Int)
theorem leavesN_len (seed : List UInt8) (n : Nat) : (leavesN seed n).length = n := by simp [leavesN]
theorem leavesN_next (seed : List UInt8) (n : Nat) : leavesN seed (n + 1) = leavesN seed n ++ [leafN seed (n : Int)] := by simp [leavesN, List.range_succ]
theorem leavesN_ok (seed : List UInt8) (n : Nat) : Elems (leavesN seed n) := by
  intro x hx
  obtain ⟨i, _, rfl⟩ := List.mem_map.1 hx
  exact ⟨leafN_len _ _, leafN_lt _ _⟩
theorem leavesN_get (seed : List UInt8) {n i : Nat} (h : i < n) : (leavesN seed n).getD i [] = leafN seed (i : Int) := by
  rw [List.getD_eq_getElem?_getD, List.getElem?_eq_getElem (by rw [leavesN_len]; exact h)]
  simp [leavesN]
def rootK (seed : List UInt8) (h : Nat) : List Nat := atN (leavesN seed (2 ^ h)) h 0
theorem rootK_ok (seed : List UInt8) (h : Nat) : (rootK seed h).length = 16 ∧ ∀ y ∈ rootK seed h, y < 256 :=
  atN_ok (leavesN_ok _ _) h 0 (by rw [leavesN_len, Nat.zero_mul]; exact Nat.two_pow_pos h)
def flatT (P : List (List Nat)) : List UInt8 := P.flatMap txt
theorem flatT_append (P Q : List (List Nat)) : flatT (P ++ Q) = flatT P ++ flatT Q := by simp [flatT]
theorem flatT_one (x : List Nat) : flatT [x] = txt x := by simp [flatT]
theorem flatT_len {P : List (List Nat)} (h : Elems P) : (flatT P).length = 16 * P.length := by
  induction P with
  | nil => rfl
  | cons x P ih =>
    have h1 := (h x (by simp)).1
    have h2 := ih fun y hy => h y (by simp [hy])
    simp only [flatT, List.flatMap_cons, List.length_append, txt_len, List.length_cons] at *
    omega
theorem part_flatT {P : List (List Nat)} (h : Elems P) : ∀ {j : Nat}, j < P.length → part (flatT P) j = txt (P.getD j []) := by
  induction P with
  | nil => intro j hj; cases hj
  | cons x P ih =>
    intro j hj
    have h1 := (h x (by simp)).1
    have hx : (txt x).length = 16 := by rw [txt_len, h1]
    rw [flatT, List.flatMap_cons, part]
    cases j with
    | zero => rw [Nat.mul_zero, List.drop_zero, List.take_append_of_le_length (by omega), List.take_of_length_le (by omega)]; rfl
    | succ j =>
      rw [show 16 * (j + 1) = (txt x).length + 16 * j by rw [hx]; omega, List.drop_append, List.drop_of_length_le (by omega), Nat.add_sub_cancel_left, List.nil_append]
      exact ih (fun y hy => h y (by simp [hy])) (by simpa using hj)
theorem part_app {a b : List UInt8} {j : Nat} (h : 16 * j + 16 ≤ a.length) : part (a ++ b) j = part a j := by
  rw [part, part, List.drop_append_of_le_length (by omega), List.take_append_of_le_length (by rw [List.length_drop]; omega)]
theorem part_behind {a b : List UInt8} {k j : Nat} (h : a.length = 16 * k) : part (a ++ b) (k + j) = part b j := by
  rw [part, part, show 16 * (k + j) = a.length + 16 * j by rw [h]; omega, List.drop_append, List.drop_of_length_le (by omega), Nat.add_sub_cancel_left, List.nil_append]
theorem part_take {s : List UInt8} {j n : Nat} (h : 16 * j + 16 ≤ n) : part (s.take n) j = part s j := by
  rw [part, part, List.drop_take, List.take_take, Nat.min_eq_left (by omega)]
theorem meetN_congr {s t : List UInt8} (h : ∀ j, j < 35 → part s j = part t j) (i : Int) (d : List Nat) : meetN s i d = meetN t i d := by
  unfold meetN
  rw [rowE_congr (g := metF t i d) fun j hj => by rw [metF, metF, h j hj]]
theorem meetN_take (s : List UInt8) (i : Int) (d : List Nat) : meetN (s.take 560) i d = meetN s i d := meetN_congr (fun j hj => part_take (by omega)) i d
def signK (seed : List UInt8) (h i : Nat) (text : List UInt8) : List UInt8 := signN seed i (digK (rootK seed h) i text) ++ flatT (pathN (leavesN seed (2 ^ h)) i h)
theorem pathK_ok (seed : List UInt8) {h i : Nat} (hi : i < 2 ^ h) : Elems (pathN (leavesN seed (2 ^ h)) i h) := pathN_ok (leavesN_ok _ _) (leavesN_len _ _) (by rw [leavesN_len]; exact hi) (Nat.le_refl _)
theorem signK_len (seed : List UInt8) {h i : Nat} (hi : i < 2 ^ h) (text : List UInt8) : (signK seed h i text).length = 560 + 16 * h := by
  rw [signK, List.length_append, signN_len, flatT_len (pathK_ok seed hi), pathN_len]
def pathK (sig : List UInt8) (h : Nat) : List (List Nat) := (List.range h).map fun j => byteNs (part sig (35 + j))
theorem pathK_len (sig : List UInt8) (h : Nat) : (pathK sig h).length = h := by simp [pathK]
theorem pathK_elems {sig : List UInt8} {h : Nat} (hl : 560 + 16 * h ≤ sig.length) : Elems (pathK sig h) := by
  intro x hx
  obtain ⟨j, hj, rfl⟩ := List.mem_map.1 hx
  have hj2 := List.mem_range.1 hj
  refine ⟨?_, byteNs_part_lt _ _⟩
  rw [byteNs, List.length_map, part, List.length_take, List.length_drop]
  omega
def verK (root : List Nat) (h i : Int) (text sig : List UInt8) : Bool :=
  decide (0 ≤ i ∧ i < (wideN h : Int) ∧ sig.length = 560 + 16 * h.toNat) && (climbN (meetN sig i (digK root i text)) i (pathK sig h.toNat) h.toNat == root)
theorem verK_not {root : List Nat} {h i : Int} {text sig : List UInt8} (hb : ¬ (0 ≤ i ∧ i < (wideN h : Int) ∧ sig.length = 560 + 16 * h.toNat)) : verK root h i text sig = false := by
  rw [verK, decide_eq_false hb, Bool.false_and]
theorem verK_is {root : List Nat} {h i : Int} {text sig : List UInt8} (hb : 0 ≤ i ∧ i < (wideN h : Int) ∧ sig.length = 560 + 16 * h.toNat) : verK root h i text sig = (climbN (meetN sig i (digK root i text)) i (pathK sig h.toNat) h.toNat == root) := by
  rw [verK, decide_eq_true hb, Bool.true_and]
theorem ver_sign (seed : List UInt8) {h i : Nat} (h1 : 1 ≤ h) (h8 : h ≤ 8) (hi : i < 2 ^ h) (text : List UInt8) : verK (rootK seed h) h i text (signK seed h i text) = true := by
  have hP := pathK_ok seed hi
  have hPL := pathN_len (leavesN seed (2 ^ h)) i h
  rw [verK_is ⟨by omega, by rw [wideN_ok h1 h8]; omega, by rw [signK_len seed hi, Int.toNat_natCast]⟩, Int.toNat_natCast]
  have e1 : meetN (signK seed h i text) i (digK (rootK seed h) i text) = leafN seed i := by
    rw [signK, meetN_congr (t := signN seed i (digK (rootK seed h) i text)) (fun j hj => part_app (by rw [signN_len]; omega)), meet_sign _ _ (digK_len _ _ _) (digK_lt _ _ _)]
  have e2 : pathK (signK seed h i text) h = pathN (leavesN seed (2 ^ h)) i h := by
    refine List.ext_getElem (by rw [pathK_len, hPL]) fun j hj1 hj2 => ?_
    have hj : j < h := by rw [pathK_len] at hj1; exact hj1
    have hx := hP _ (List.getElem_mem hj2)
    simp only [pathK, List.getElem_map, List.getElem_range]
    rw [signK, part_behind (k := 35) (by rw [signN_len]), part_flatT hP (by rw [hPL]; exact hj), List.getD_eq_getElem?_getD, List.getElem?_eq_getElem hj2, Option.getD_some, byteNs_txt hx.2]
  rw [e1, e2, ← leavesN_get seed hi, climb_root _ hi, beq_iff_eq]
  rfl
end Go.Proofs.YtpfhlhcnmeodbaaGreatDoor
namespace Go.Proofs.YtpfhlhcnmeodbaaGreatDoor
open Go.RowKit
def linkT (p : List Nat) (i : Int) (e : EntN) : List UInt8 := listB [[108, 105, 110, 107], txt p, numB i.toNat, entB e]
def linkN (p : List Nat) (i : Int) (e : EntN) : List Nat := shaN (linkT p i e)
theorem linkN_ok (p : List Nat) (i : Int) (e : EntN) : IdOk (linkN p i e) := ⟨shaN_len _, shaN_lt _⟩
def endN : List Nat → Int → List EntN → List Nat
  | p, _, [] => p
  | p, i, e :: L => endN (linkN p i e) (i + 1) L
def leadN : List Nat → Int → List EntN → List (List Nat)
  | _, _, [] => []
  | p, i, e :: L => linkN p i e :: leadN (linkN p i e) (i + 1) L
theorem endN_ok {p : List Nat} (hp : IdOk p) : ∀ (L : List EntN) (i : Int), IdOk (endN p i L) := by
  intro L
  induction L generalizing p with
  | nil => intro i; exact hp
  | cons e L ih => intro i; exact ih (linkN_ok p i e) (i + 1)
theorem leadN_len : ∀ (L : List EntN) (p : List Nat) (i : Int), (leadN p i L).length = L.length
  | [], _, _ => rfl
  | e :: L, p, i => by rw [leadN, List.length_cons, leadN_len L, List.length_cons]
theorem leadN_ok : ∀ (L : List EntN) (p : List Nat) (i : Int), ∀ x ∈ leadN p i L, IdOk x
  | [], _, _, x, hx => by cases hx
  | e :: L, p, i, x, hx => by
    rw [leadN] at hx
    rcases List.mem_cons.1 hx with rfl | hx
    · exact linkN_ok p i e
    · exact leadN_ok L _ _ x hx
theorem endN_snoc : ∀ (L : List EntN) (p : List Nat) (i : Int) (e : EntN), endN p i (L ++ [e]) = linkN (endN p i L) (i + L.length) e
  | [], p, i, e => by simp [endN]
  | a :: L, p, i, e => by
    rw [List.cons_append, endN, endN_snoc L, endN, List.length_cons]
    congr 1
    omega
theorem endN_app : ∀ (L M : List EntN) (p : List Nat) (i : Int), endN p i (L ++ M) = endN (endN p i L) (i + L.length) M
  | [], M, p, i => by simp [endN]
  | a :: L, M, p, i => by
    rw [List.cons_append, endN, endN_app L M, endN, List.length_cons]
    congr 1
    omega
theorem leadN_snoc : ∀ (L : List EntN) (p : List Nat) (i : Int) (e : EntN), leadN p i (L ++ [e]) = leadN p i L ++ [linkN (endN p i L) (i + L.length) e]
  | [], p, i, e => by simp [leadN, endN]
  | a :: L, p, i, e => by
    rw [List.cons_append, leadN, leadN_snoc L, leadN, List.cons_append, endN, List.length_cons, show i + 1 + (L.length : Int) = i + ((L.length + 1 : Nat) : Int) by omega]
theorem leadN_app : ∀ (L M : List EntN) (p : List Nat) (i : Int), leadN p i (L ++ M) = leadN p i L ++ leadN (endN p i L) (i + L.length) M
  | [], M, p, i => by simp [leadN, endN]
  | a :: L, M, p, i => by
    rw [List.cons_append, leadN, leadN_app L M, leadN, List.cons_append, endN, List.length_cons, show i + 1 + (L.length : Int) = i + ((L.length + 1 : Nat) : Int) by omega]
theorem leadN_get : ∀ {L : List EntN} (p : List Nat) (i : Int) {k : Nat}, k < L.length → (leadN p i L)[k]? = some (endN p i (L.take (k + 1)))
  | [], _, _, _, h => by simp at h
  | a :: L, p, i, 0, _ => by simp [leadN, endN]
  | a :: L, p, i, k + 1, h => by
    have ih := leadN_get (L := L) (linkN p i a) (i + 1) (k := k) (by simpa using h)
    rw [leadN, List.getElem?_cons_succ, ih, List.take_succ_cons, endN]
theorem linkT_len {p : List Nat} (hp : IdOk p) {i : Int} (hi : i ≤ 9223372036854775807) {e : EntN} (he : e.Fit) : (linkT p i e).length ≤ 9000 := by
  rw [linkT, listB_length]
  have e2 : (textsB []).length = 0 := rfl
  have h1 : (txt p).length = 32 := by rw [txt_len]; exact hp.1
  have h2 := entB_le he
  have h3 := numB_len9 (n := i.toNat) (by omega)
  have a0 := numB_len9 (n := 4) (by decide)
  have a1 := textB_le9 (t := [108, 105, 110, 107]) (by decide)
  have a2 := textB_le9 (t := txt p) (by omega)
  have a3 := textB_le9 (t := numB i.toNat) (by omega)
  have a4 := textB_le9 (t := entB e) (by omega)
  simp only [List.length_cons, List.length_nil, Nat.zero_add, Nat.reduceAdd] at a1
  simp only [List.length_cons, List.length_nil, Nat.zero_add, Nat.reduceAdd, textsB_cons, List.length_append, e2]
  omega
structure AuthN where
  node : Int
  seq : Int
  hash : List Nat
  sig : List UInt8
deriving DecidableEq
structure NodeN where
  root : List Nat
  height : Int
structure NodeN.Ok (n : NodeN) : Prop where
  root : n.root.length = 16 ∧ ∀ y ∈ n.root, y < 256
  low : -9223372036854775808 ≤ n.height
  high : n.height ≤ 9223372036854775807
def noA : AuthN := ⟨0, 0, zeroI, []⟩
def wordB (n i : Int) (h : List Nat) : List UInt8 := listB [[119, 111, 114, 100], numB n.toNat, numB i.toNat, txt h]
def checkN (a : AuthN) (N : List NodeN) : Bool := if 0 ≤ a.node ∧ a.node < N.length ∧ 1 ≤ a.seq then verK (N.getD a.node.toNat ⟨[], 0⟩).root (N.getD a.node.toNat ⟨[], 0⟩).height (a.seq - 1) (wordB a.node a.seq a.hash) a.sig else false
theorem wordB_len {n i : Int} {h : List Nat} (hn : n ≤ 9223372036854775807) (hi : i ≤ 9223372036854775807) (hh : IdOk h) : (wordB n i h).length ≤ 200 := by
  rw [wordB, listB_length]
  have e2 : (textsB []).length = 0 := rfl
  have h1 : (txt h).length = 32 := by rw [txt_len]; exact hh.1
  have h2 := numB_len9 (n := n.toNat) (by omega)
  have h3 := numB_len9 (n := i.toNat) (by omega)
  have a0 := numB_len9 (n := 4) (by decide)
  have a1 := textB_le9 (t := [119, 111, 114, 100]) (by decide)
  have a2 := textB_le9 (t := numB n.toNat) (by omega)
  have a3 := textB_le9 (t := numB i.toNat) (by omega)
  have a4 := textB_le9 (t := txt h) (by omega)
  simp only [List.length_cons, List.length_nil, Nat.zero_add, Nat.reduceAdd] at a1
  simp only [List.length_cons, List.length_nil, Nat.zero_add, Nat.reduceAdd, textsB_cons, List.length_append, e2]
  omega
def hashL (L : List EntN) (k : Nat) : List Nat := endN zeroI 1 (L.take k)
def authL (nd : Int) (seed : List UInt8) (h : Nat) (L : List EntN) (k : Nat) : AuthN := ⟨nd, k, hashL L k, signK seed h (k - 1) (wordB nd k (hashL L k))⟩
theorem hashL_ok (L : List EntN) (k : Nat) : IdOk (hashL L k) := endN_ok zeroI_ok _ _
end Go.Proofs.YtpfhlhcnmeodbaaGreatDoor
