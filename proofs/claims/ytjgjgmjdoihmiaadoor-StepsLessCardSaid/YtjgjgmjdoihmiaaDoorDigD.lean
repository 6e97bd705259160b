/-
  Digits, the developers'.
-/
import Derived.Test.YtjgjgmjdoihmiaaDoorDigM
namespace Go.Proofs.YtjgjgmjdoihmiaaDoor
open Go.RowKit Go.BigFrame

theorem three_of (w : World) (k1 k2 k3 : IntKind) (l m n : List Nat) (t u v : TypeId) : Blk w.heap.size t k1 l (((w.alloc (.cells (nums k1 l).toArray t)).alloc (.cells (nums k2 m).toArray u)).alloc (.cells (nums k3 n).toArray v)) ∧
    Blk (w.heap.size + 1) u k2 m (((w.alloc (.cells (nums k1 l).toArray t)).alloc (.cells (nums k2 m).toArray u)).alloc (.cells (nums k3 n).toArray v)) ∧
    Blk (w.heap.size + 2) v k3 n (((w.alloc (.cells (nums k1 l).toArray t)).alloc (.cells (nums k2 m).toArray u)).alloc (.cells (nums k3 n).toArray v)) ∧
    Below w.heap.size w (((w.alloc (.cells (nums k1 l).toArray t)).alloc (.cells (nums k2 m).toArray u)).alloc (.cells (nums k3 n).toArray v)) := by
  have h1 : Blk w.heap.size t k1 l (w.alloc (.cells (nums k1 l).toArray t)) := heap_alloc_new w _
  have h2 : Blk (w.heap.size + 1) u k2 m ((w.alloc (.cells (nums k1 l).toArray t)).alloc (.cells (nums k2 m).toArray u)) := by
    have h := heap_alloc_new (w.alloc (.cells (nums k1 l).toArray t)) (.cells (nums k2 m).toArray u)
    rw [World.size_alloc] at h
    exact h
  have h3 : Blk (w.heap.size + 2) v k3 n (((w.alloc (.cells (nums k1 l).toArray t)).alloc (.cells (nums k2 m).toArray u)).alloc (.cells (nums k3 n).toArray v)) := by
    have h := heap_alloc_new ((w.alloc (.cells (nums k1 l).toArray t)).alloc (.cells (nums k2 m).toArray u)) (.cells (nums k3 n).toArray v)
    rw [World.size_alloc, World.size_alloc] at h
    exact h
  exact ⟨(h1.alloc _).alloc _, h2.alloc _, h3, (((Below.refl _ w).alloc (Nat.le_refl _) _).alloc (by simp) _).alloc (by simp; omega) _⟩
theorem and_i15' : ∀ n : Fin 481, bits BinOp.and IntKind.i64 (n.val : Int) 15 = ((n.val % 16 : Nat) : Int) := by decide +kernel
theorem and_i15 (x : Nat) (h : x ≤ 480) : bits BinOp.and IntKind.i64 (x : Int) 15 = ((x % 16 : Nat) : Int) := and_i15' ⟨x, by omega⟩
theorem Tryd.infoDg : (Tryd.prog.info? 30).map (fun i => i.size) = some 35 := by kernel_rfl

set_option maxHeartbeats 4000000 in
set_option maxRecDepth 100000 in
theorem dev_digits (x : List Nat) (w : World) (hx : x.length = 16) (hl : ∀ y ∈ x, y < 256) :
    Calls Tryd.prog 11 #[.agg (nums .u8 x).toArray] w fun e w' => e = .returned (.agg (nums .i64 (digN x)).toArray) ∧ Below w.heap.size w w' := by
  have HX := Lib.hid hx
  have HL := Lib.hid hl
  clear hx hl
  go_enter Tryd.func11, Tryd.ntmps11
  go_upto_region 2 with (fail)
  change Code.wp _ _ _ _ (((w.alloc (.cells (nums .u8 x).toArray 24)).alloc (.cells (nums .i64 (List.replicate 35 0)).toArray 30)).alloc (.cells (nums .i64 (List.replicate 35 0)).toArray 30))
  obtain ⟨w1, hw1⟩ : ∃ x', x' = ((w.alloc (.cells (nums .u8 x).toArray 24)).alloc (.cells (nums .i64 (List.replicate 35 0)).toArray 30)).alloc (.cells (nums .i64 (List.replicate 35 0)).toArray 30) := ⟨_, rfl⟩
  rw [← hw1]
  have h3 : Blk w.heap.size 24 .u8 x w1 ∧ Blk (w.heap.size + 1) 30 .i64 (List.replicate 35 0) w1 ∧ Blk (w.heap.size + 2) 30 .i64 (List.replicate 35 0) w1 ∧ Below w.heap.size w w1 := by rw [hw1]; exact three_of w _ _ _ _ _ _ _ _ _
  obtain ⟨hx1, hr1, hd1, hb1⟩ := h3
  have HX1 := Lib.hid hx1
  have HR1 := Lib.hid hr1
  have HD1 := Lib.hid hd1
  have HB1 := Lib.hid hb1
  have HI := Lib.hid (show (Tryd.prog.info? 24).map (·.size) = some x.length by rw [HX.out]; exact Tryd.infoE)
  clear hx1 hr1 hd1 hb1 hw1
  obtain ⟨gd, hgd⟩ : ∃ g, g = w.heap.size + 1 + 1 := ⟨_, rfl⟩
  rw [← hgd]
  rw [show w.heap.size + 2 = gd from hgd.symm] at HD1
  have HGD := Lib.hid hgd
  clear hgd
  go_wp2_with (refine wpList_load_nums rfl 24 _ rfl w.heap.size .u8 _ 24 _ rfl HX1.out Tryd.underlying24 rfl HI.out ?_)
  go_loopw [11] (fun n wq => ∃ k : Nat, k ≤ 16 ∧ n = .int .i64 k ∧ Blk gd 30 .i64 (arrD x k) wq ∧ But gd w1 wq) (fun n _ => 16 - (intOf n).toNat)
  case atStart => exact ⟨0, by omega, rfl, HD1.out, But.refl _ _⟩
  case round =>
    clear HD1
    obtain ⟨k, hk, rfl, hc, hb⟩ := hrel
    have HC := Lib.hid hc
    have HB := Lib.hid hb
    clear hc hb
    by_cases hlk : k < 16
    · have hix := fun w => run_index_nums (P := Tryd.prog) 24 5 16 .u8 x k w Tryd.underlying24 HX.out Tryd.sizeOf5 Tryd.isAgg5 hlk
      have hx := getD_lt HL.out (by decide) k
      have HS := Lib.hid (arrD_set HX.out hlk)
      have HAL := Lib.hid (arrD_len HX.out hk)
      generalize arrD x k = L at HC HS HAL ⊢
      generalize x.getD k 0 = y at hix hx HS
      have e2 : bits BinOp.and IntKind.u8 (y : Int) 15 = ((y % 16 : Nat) : Int) := and_15 y hx
      have c1 := HC.out.cell (2 * k) (by rw [HAL.out]; omega)
      have f1 := HC.out.frozen (2 * k)
      go_upto_region 6 with (fail)
      clear hix c1 f1
      obtain ⟨w2, hw2⟩ : ∃ x', x' = wr.setCell ⟨gd, 2 * k, none⟩ (.int .i64 ((y : Int) / 16)) := ⟨_, rfl⟩
      rw [← hw2]
      rw [show (y : Int) / 16 = ((y / 16 : Nat) : Int) by omega] at hw2 ⊢
      have hc2 : Blk gd 30 .i64 (L.set (2 * k) (y / 16)) w2 := by rw [hw2]; exact HC.out.set _ _
      have HB2 := Lib.hid (show But gd w1 w2 by rw [hw2]; exact HB.out.setCell _ _)
      have HC2 := Lib.hid hc2
      have c1 := hc2.cell (2 * k + 1) (by rw [List.length_set, HAL.out]; omega)
      have f1 := hc2.frozen (2 * k + 1)
      clear hw2 HC HB hc2
      have HS3 := Lib.hid (HC2.out.set (2 * k + 1) (y % 16))
      rw [HS.out] at HS3
      have b1 : ((2 : Int) * k + 1) < 35 := by omega
      generalize (L.set (2 * k) (y / 16)).getD (2 * k + 1) 0 = z at c1
      clear HS HAL
      go_wp2_with fail
      exact ⟨⟨k + 1, by omega, by go_num, HS3.out, HB2.out.setCell _ _⟩, by simp [intOf]; omega⟩
    · obtain rfl : k = 16 := by omega
      rw [arrD_full HX.out] at HC
      have HD := Lib.hid (show (digL x).length = 32 by rw [digL_len, HX.out])
      have HDL := Lib.hid (digL_lt HL.out)
      have HN := Lib.hid (show digN x = digL x ++ sumL (leftL (digL x)) from rfl)
      generalize digL x = D at HC HD HDL HN
      have HR1' := Lib.hid (HR1.out.but HB.out (by have := HGD.out; omega))
      have HB' := Lib.hid (show Below w.heap.size w wr from But.toBelow HB1.out HB.out (by have := HGD.out; omega) HB1.out.size)
      clear HB HB1 HR1 HX1 HI
      go_wp2_with fail
      go_loop [6, 31] (fun n j => ∃ k : Nat, k ≤ 32 ∧ j = .int .i64 k ∧ n = .int .i64 (leftL (D.take k)) ∧ leftL (D.take k) ≤ 480) (fun _ j => 32 - (intOf j).toNat)
      case atStart => exact ⟨0, by omega, rfl, rfl, by simp [leftL]⟩
      case round =>
        obtain ⟨k, hk, rfl, rfl, hle⟩ := hrel
        by_cases hlk : k < 32
        · have c1 := HC.out.cell k (by rw [List.length_append, HD.out]; omega)
          rw [getD_left _ _ _ (by rw [HD.out]; exact hlk)] at c1
          have hd := getD_lt HDL.out (by decide) k
          have hnx := leftL_next (l := D) (k := k) (by rw [HD.out]; exact hlk)
          have hln := leftL_le (D.take (k + 1))
          rw [List.length_take, HD.out] at hln
          have HNX := Lib.hid hnx
          have HLN := Lib.hid (show leftL (D.take (k + 1)) ≤ 480 by omega)
          clear hnx hln
          generalize D.getD k 0 = z at c1 hd HNX
          go_wp2_with fail
          exact ⟨⟨k + 1, by omega, by go_num, by rw [HNX.out]; go_num, HLN.out⟩, by simp [intOf]; omega⟩
        · obtain rfl : k = 32 := by omega
          rw [List.take_of_length_le (by rw [HD.out]; exact Nat.le_refl _)] at hle ⊢
          generalize leftL D = N at HN hle ⊢
          go_wp2_with fail
          go_loopw [6, 9] (fun n j wq => ∃ k : Nat, k ≤ 3 ∧ j = .int .i64 (34 - (k : Int)) ∧ n = .int .i64 ((N / 16 ^ k : Nat) : Int) ∧ Blk gd 30 .i64 (D ++ tailD N k) wq ∧ But gd wr wq) (fun _ j _ => (intOf j + 1).toNat)
          case atStart => exact ⟨0, by omega, rfl, by simp, HC.out, But.refl _ _⟩
          case round =>
            clear HC
            obtain ⟨k, hk, rfl, rfl, hc, hb⟩ := hrel
            have HC := Lib.hid hc
            have HB := Lib.hid hb
            clear hc hb
            obtain ⟨q, hq⟩ : ∃ q : Nat, 34 - (k : Int) = q := ⟨34 - k, by omega⟩
            rw [hq]
            by_cases hlk : k < 3
            · have hM : N / 16 ^ k ≤ 480 := Nat.le_trans (Nat.div_le_self _ _) hle
              have HS := Lib.hid (tailD_set hle D HD.out hlk)
              have HM := Lib.hid (show N / 16 ^ (k + 1) = N / 16 ^ k / 16 by rw [Nat.div_div_eq_div_mul, Nat.pow_succ])
              rw [show 34 - k = q by omega] at HS
              have HTL := Lib.hid (show (D ++ tailD N k).length = 35 by rw [List.length_append, HD.out, tailD_len])
              generalize N / 16 ^ k = M at hM HS HM ⊢
              have e1 := and_i15 M hM
              have c1 := HC.out.cell q (by rw [HTL.out]; omega)
              have f1 := HC.out.frozen q
              have HS3 := Lib.hid (HC.out.set q (M % 16))
              rw [HS.out] at HS3
              have b1 : (32 : Int) ≤ q := by omega
              have b2 : (q : Int) < 35 := by omega
              generalize (D ++ tailD N k).getD q 0 = z at c1
              clear HTL HS
              go_wp2_with fail
              exact ⟨⟨k + 1, by omega, by go_num, by rw [HM.out]; go_num, HS3.out, HB.out.setCell _ _⟩, by simp [intOf]⟩
            · obtain rfl : k = 3 := by omega
              obtain rfl : q = 31 := by omega
              have HC3 := Lib.hid (show Blk gd 30 .i64 (digN x) wr by have h := HC.out; rw [show tailD N 3 = sumL N from rfl, ← HN.out] at h; exact h)
              have HR3 := Lib.hid (HR1'.out.but HB.out (by have := HGD.out; omega))
              have HB3 := Lib.hid (show Below w.heap.size w wr from But.toBelow HB'.out HB.out (by have := HGD.out; omega) HB'.out.size)
              have HGW := Lib.hid (HB3.out.size)
              clear HC HB HR1' HB' hq
              have HIN := Lib.hid (show (Tryd.prog.info? 30).map (·.size) = some (digN x).length by rw [digN_len HX.out]; exact Tryd.infoDg)
              have HL2 := Lib.hid (show (List.replicate 35 0).length = (digN x).length by rw [digN_len HX.out]; rfl)
              go_wp2_with (first | (refine wpList_load_nums rfl 30 _ rfl gd .i64 _ 30 _ rfl HC3.out Tryd.underlying30 rfl HIN.out ?_) | (refine wpList_store_nums rfl 30 _ _ rfl rfl (w.heap.size + 1) .i64 _ (digN x) 30 rfl rfl HR3.out HIN.out HL2.out ?_))
              intro w7 hc hb
              have HC7 := Lib.hid (show Blk (w.heap.size + 1) 30 .i64 (digN x) w7 from hc.out)
              have HB7 := Lib.hid (show Below w.heap.size w w7 from But.toBelow HB3.out hb.out (by omega) HB3.out.size)
              clear hc hb
              go_wp2_with fail
              exact bodyPost_ret (results_nums rfl _ _ (w.heap.size + 1) .i64 _ 30 _ rfl HC7.out Tryd.underlying30 rfl HIN.out) rfl ⟨rfl, HB7.out⟩
end Go.Proofs.YtjgjgmjdoihmiaaDoor
