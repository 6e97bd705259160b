/-
  How many bits are set; can they be leaves? A half; a tree's height.
-/
import Derived.Test.YtgmckanjgnpbhaaDoorTreeM
namespace Go.Proofs.YtgmckanjgnpbhaaDoor
open Go.RowKit Go.BigFrame

def ones1 (x : Int) : Int := IntKind.u64.wrap (bits .and .u64 (x / 2) 6148914691236517205 + bits .and .u64 x 6148914691236517205)
def ones2 (x : Int) : Int := IntKind.u64.wrap (bits .and .u64 (x / 4) 3689348814741910323 + bits .and .u64 x 3689348814741910323)
def ones3 (x : Int) : Int := bits .and .u64 (IntKind.u64.wrap (x / 16 + x)) 1085102592571150095
def onesA (d : Int) (x : Int) : Int := IntKind.u64.wrap (x + x / d)
def onesN (n : Nat) : Int := bits .and .i64 (wrap64 (onesA 4294967296 (onesA 65536 (onesA 256 (ones3 (ones2 (ones1 n))))))) 127
set_option maxHeartbeats 1000000 in
set_option maxRecDepth 100000 in
theorem ones_64 (n : Nat) (w : World) :
    Calls Tryd.prog 37 #[.int .u64 n] w fun e w' => e = .returned (.int .i64 (onesN n)) ∧ w' = w := by
  go_enter Tryd.func37, Tryd.ntmps37
  go_upto_region 2 with (fail)
  obtain ⟨x1, h1⟩ : ∃ x, x = ones1 n := ⟨_, rfl⟩
  rw [show IntKind.u64.wrap (bits .and .u64 ((n : Int) / 2) 6148914691236517205 + bits .and .u64 (n : Int) 6148914691236517205) = x1 from h1.symm]
  have H1 := Shut.mk h1
  clear h1
  go_upto_region 3 with (fail)
  obtain ⟨x2, h2⟩ : ∃ x, x = ones2 x1 := ⟨_, rfl⟩
  rw [show IntKind.u64.wrap (bits .and .u64 (x1 / 4) 3689348814741910323 + bits .and .u64 x1 3689348814741910323) = x2 from h2.symm]
  have H2 := Shut.mk h2
  clear h2
  go_upto_region 4 with (fail)
  obtain ⟨x3, h3⟩ : ∃ x, x = ones3 x2 := ⟨_, rfl⟩
  rw [show bits .and .u64 (IntKind.u64.wrap (x2 / 16 + x2)) 1085102592571150095 = x3 from h3.symm]
  have H3 := Shut.mk h3
  clear h3
  go_upto_region 5 with (fail)
  obtain ⟨x4, h4⟩ : ∃ x, x = onesA 256 x3 := ⟨_, rfl⟩
  rw [show IntKind.u64.wrap (x3 + x3 / 256) = x4 from h4.symm]
  have H4 := Shut.mk h4
  clear h4
  go_upto_region 6 with (fail)
  obtain ⟨x5, h5⟩ : ∃ x, x = onesA 65536 x4 := ⟨_, rfl⟩
  rw [show IntKind.u64.wrap (x4 + x4 / 65536) = x5 from h5.symm]
  have H5 := Shut.mk h5
  clear h5
  go_upto_region 7 with (fail)
  obtain ⟨x6, h6⟩ : ∃ x, x = onesA 4294967296 x5 := ⟨_, rfl⟩
  rw [show IntKind.u64.wrap (x5 + x5 / 4294967296) = x6 from h6.symm]
  have H6 := Shut.mk h6
  clear h6
  go_wp2_with fail
  go_ret
  exact ⟨by rw [H6.out, H5.out, H4.out, H3.out, H2.out, H1.out]; rfl, rfl⟩
theorem ones_good {n : Nat} (hn : n ≤ 256) : (onesN n == 1) = goodN n := by
  have key : ∀ n : Fin 257, (onesN n.val == 1) = goodN n.val := by decide +kernel
  exact key ⟨n, by omega⟩
theorem dev_ones (n : Nat) (w : World) :
    Calls Tryd.prog 30 #[.int .u64 n] w fun e w' => e = .returned (.int .i64 (onesN n)) ∧ w' = w := by
  go_enter Tryd.func30, Tryd.ntmps30
  go_wp2_with fail
  refine (ones_64 n w).mono ?_
  rintro e w1 ⟨rfl, rfl⟩
  obtain ⟨q, hq⟩ : ∃ q, onesN n = q := ⟨_, rfl⟩
  rw [hq]
  have HQ := Shut.mk hq
  clear hq
  go_wp2_with fail
  go_ret
  exact ⟨by rw [HQ.out]; rfl, rfl⟩
theorem dev_permitted (n : Nat) (w : World) (hn : n ≤ 9000000000000) :
    Calls Tryd.prog 21 #[.int .i64 n] w fun e w' => e = .returned (.bool (goodN n)) ∧ w' = w := by
  go_enter Tryd.func21, Tryd.ntmps21
  by_cases h : n ≤ 256
  · have h2 : (n : Int) ≤ 256 := by omega
    have hg := Shut.mk (ones_good h)
    go_wp2_with fail
    refine (dev_ones n w).mono ?_
    rintro e w1 ⟨rfl, rfl⟩
    generalize onesN n = q at *
    go_wp2_with fail
    go_ret
    exact ⟨by rw [← hg.out]; rfl, rfl⟩
  · have h2 : ¬ (n : Int) ≤ 256 := by omega
    have hg : goodN n = false := by
      cases hc : goodN n with
      | false => rfl
      | true => exact absurd (goodN_le hc) h
    go_wp2_with fail
    go_ret
    exact ⟨rfl, rfl⟩
theorem ref_good (n : Nat) (w : World) :
    Calls Tryd.prog 12 #[.int .i64 n] w fun e w' => e = .returned (.bool (goodN n)) ∧ w' = w := by
  go_enter Tryd.func12, Tryd.ntmps12
  have e1 : ((n : Int) == 1) = (n == 1) := by rw [Bool.eq_iff_iff]; simp; omega
  have e2 : ((n : Int) == 2) = (n == 2) := by rw [Bool.eq_iff_iff]; simp; omega
  have e3 : ((n : Int) == 4) = (n == 4) := by rw [Bool.eq_iff_iff]; simp; omega
  have e4 : ((n : Int) == 8) = (n == 8) := by rw [Bool.eq_iff_iff]; simp; omega
  have e5 : ((n : Int) == 16) = (n == 16) := by rw [Bool.eq_iff_iff]; simp; omega
  have e6 : ((n : Int) == 32) = (n == 32) := by rw [Bool.eq_iff_iff]; simp; omega
  have e7 : ((n : Int) == 64) = (n == 64) := by rw [Bool.eq_iff_iff]; simp; omega
  have e8 : ((n : Int) == 128) = (n == 128) := by rw [Bool.eq_iff_iff]; simp; omega
  have e9 : ((n : Int) == 256) = (n == 256) := by rw [Bool.eq_iff_iff]; simp; omega
  go_wp2_with fail
  all_goals (go_ret; refine ⟨?_, rfl⟩; change Ending.returned (.bool _) = _; refine congrArg (fun b => Ending.returned (.bool b)) ?_; simp [goodN, *])

theorem tdiv_two {a : Int} (h : a < 0) : a.tdiv 2 = -((-a) / 2) ∧ a.tmod 2 = -((-a) % 2) := by
  obtain ⟨b, rfl⟩ : ∃ b, a = -b := ⟨-a, by omega⟩
  rw [Int.neg_tdiv, Int.neg_tmod, Int.neg_neg, Int.tdiv_eq_ediv_of_nonneg (by omega), Int.tmod_eq_emod_of_nonneg (by omega)]
  exact ⟨rfl, rfl⟩
/-- Half, rounded down. -/
theorem half_any (a : Int) (w : World) (h0 : -9223372036854775808 ≤ a) (h1 : a ≤ 9223372036854775807) :
    Calls Tryd.prog 23 #[.int .i64 a] w fun e w' => e = .returned (.int .i64 (a / 2)) ∧ w' = w := by
  go_enter Tryd.func23, Tryd.ntmps23
  by_cases hn : a < 0
  · obtain ⟨h2, h3⟩ := tdiv_two hn
    by_cases hm : (-a) % 2 = 0
    · have h4 : (a.tmod 2 != 0) = false := by rw [h3, hm]; rfl
      have h5 : a.tdiv 2 = a / 2 := by rw [h2]; omega
      clear h2 h3
      go_wp2_with fail
      go_ret
      exact ⟨rfl, rfl⟩
    · have h4 : (a.tmod 2 != 0) = true := by
        rw [h3, bne_iff_ne]
        omega
      have h5 : wrap64 (a.tdiv 2 - 1) = a / 2 := by
        rw [h2]
        unfold wrap64
        omega
      have H5 := Lib.hid h5
      clear h2 h3 h5
      go_wp2_with fail
      go_ret
      exact ⟨by rw [← H5.out]; rfl, rfl⟩
  · go_wp2_with fail
    go_ret
    exact ⟨rfl, rfl⟩
theorem height_any (n : Nat) (w : World) (hn : n ≤ 9000000000000) :
    Calls Tryd.prog 14 #[.int .i64 n] w fun e w' => e = .returned (.int .i64 (heightN n : Nat)) ∧ w' = w := by
  go_enter Tryd.func14, Tryd.ntmps14
  go_wp2_with fail
  go_loop [0, 3] (fun m h => ∃ q k : Nat, m = .int .i64 q ∧ h = .int .i64 k ∧ q ≤ n ∧ heightN n = k + heightN q ∧ k + q ≤ n) (fun m _ => (intOf m).toNat)
  case atStart => exact ⟨n, 0, rfl, rfl, Nat.le_refl _, by omega, by omega⟩
  case round =>
    obtain ⟨q, k, rfl, rfl, hq, hh, hk⟩ := hrel
    have HH := Shut.mk hh
    clear hh
    by_cases h1 : 1 < q
    · have h2 : (1 : Int) < q := by omega
      go_wp2_with fail
      exact ⟨⟨q / 2, k + 1, by simp, by simp, by omega, by rw [HH.out, heightN_next h1]; omega, by omega⟩, by simp [intOf]; omega⟩
    · have h2 : ¬ (1 : Int) < q := by omega
      have h0 : heightN q = 0 := by
        rcases (by omega : q = 0 ∨ q = 1) with rfl | rfl
        · simp [heightN]
        · exact heightN_one
      have H0 := Shut.mk h0
      clear h0
      go_wp2_with fail
      go_ret
      exact ⟨by rw [HH.out, H0.out]; rfl, rfl⟩
end Go.Proofs.YtgmckanjgnpbhaaDoor
