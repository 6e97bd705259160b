/-
  The document's At, Climb and Path; the developers' Climb.
-/
import Derived.Test.YtcjjhddppcmgoaaDoorUp
namespace Go.Proofs.YtcjjhddppcmgoaaDoor
open Go.RowKit Go.BigFrame

set_option maxHeartbeats 1000000 in
set_option maxRecDepth 100000 in
theorem ref_at (L : List (List Nat)) (ao : Option Addr) (cap : Nat) (hL : Elems L) (hn : L.length ≤ 256) : ∀ (k i : Nat) (w : World), EAt ao L w → (i + 1) * 2 ^ k ≤ L.length → k ≤ 8 →
    Calls Tryd.prog 29 #[.slice ao L.length cap, .int .i64 k, .int .i64 i] w fun e w' => e = .returned (.agg (nums .u8 (atN L k i)).toArray) ∧ Below w.heap.size w w' := by
  intro k
  induction k with
  | zero =>
    intro i w hE hi _
    have hi2 : i < L.length := by simp only [Nat.pow_zero, Nat.mul_one] at hi; omega
    obtain ⟨b, o, rfl, hb⟩ := hE.some (by omega)
    have HC := Lib.hid (hE.get hi2)
    obtain ⟨hx1, hx2⟩ := hL.getD hi2
    have HX := Lib.hid hx1
    have HEQ := Shut.mk (show atN L 0 i = L.getD i [] from rfl)
    obtain ⟨x, hx⟩ : ∃ x, L.getD i [] = x := ⟨_, rfl⟩
    rw [hx] at HC HEQ HX
    clear hx1 hx2 hx hi
    go_enter Tryd.func29, Tryd.ntmps29
    go_upto_region 1 with (fail)
    change Code.wp _ _ _ _ (w.alloc (.cells (nums .u8 (List.replicate 16 0)).toArray 31))
    obtain ⟨w1, hw1⟩ : ∃ x', x' = w.alloc (.cells (nums .u8 (List.replicate 16 0)).toArray 31) := ⟨_, rfl⟩
    rw [← hw1]
    have hb1 : Below w.heap.size w w1 := by rw [hw1]; exact (Below.refl _ _).alloc (Nat.le_refl _) _
    have HR1 := Lib.hid (show Blk w.heap.size 31 .u8 (List.replicate 16 0) w1 by rw [hw1]; exact heap_alloc_new w _)
    have HB1 := Lib.hid hb1
    clear hw1 hb1
    have HC1 := Lib.hid (rangeAt_below HC.out HB1.out hb)
    have HI := Lib.hid (show (Tryd.prog.info? 31).map (·.size) = some x.length by rw [HX.out]; exact Tryd.infoE)
    have HL2 := Lib.hid (show (List.replicate 16 0).length = x.length by rw [HX.out]; rfl)
    obtain ⟨g, hg⟩ : ∃ g, g = w.heap.size := ⟨_, rfl⟩
    rw [← hg] at HR1 ⊢
    have HG := Lib.hid (show w.heap.size ≤ g by omega)
    clear hg HC
    go_wp2_with (first
      | (refine wpList_load_elem rfl 31 _ rfl b (o + i * 16) x _ rfl HC1.out Tryd.underlying31 rfl HI.out ?_)
      | (refine wpList_store_nums rfl 31 _ _ rfl rfl g .u8 _ x 31 rfl rfl HR1.out HI.out HL2.out ?_))
    intro w7 hc' hb'
    have HC7 := Lib.hid (show Blk g 31 .u8 x w7 from hc'.out)
    have HB7 := Lib.hid (show Below w.heap.size w w7 from But.toBelow HB1.out hb'.out HG.out HB1.out.size)
    clear hc' hb'
    go_wp2_with fail
    exact bodyPost_ret (results_nums rfl _ _ g .u8 _ 31 _ rfl HC7.out Tryd.underlying31 rfl HI.out) rfl ⟨by rw [HEQ.out], HB7.out⟩
  | succ k ih =>
    intro i w hE hi hk
    have hi3 : (2 * i + 1 + 1) * 2 ^ k ≤ L.length := by
      rw [Nat.pow_succ] at hi
      rw [show 2 * i + 1 + 1 = (i + 1) * 2 by omega, Nat.mul_assoc, Nat.mul_comm 2]
      exact hi
    have hi4 : (2 * i + 1) * 2 ^ k ≤ L.length := Nat.le_trans (Nat.mul_le_mul_right _ (by omega)) hi3
    have hi5 : 2 * i + 2 ≤ 256 := by
      have := Nat.le_trans (Nat.le_mul_of_pos_right (2 * i + 1 + 1) (Nat.two_pow_pos k)) hi3
      omega
    have IH1 := Lib.hid (fun w hE => ih (2 * i) w hE hi4 (by omega))
    have IH2 := Lib.hid (fun w hE => ih (2 * i + 1) w hE hi3 (by omega))
    obtain ⟨hx1, hx2⟩ := atN_ok hL k (2 * i) (Nat.lt_of_lt_of_le (Nat.mul_lt_mul_of_pos_right (Nat.lt_succ_self _) (Nat.two_pow_pos k)) hi4)
    obtain ⟨hy1, hy2⟩ := atN_ok hL k (2 * i + 1) (Nat.lt_of_lt_of_le (Nat.mul_lt_mul_of_pos_right (Nat.lt_succ_self _) (Nat.two_pow_pos k)) hi3)
    have HEQ := Shut.mk (show atN L (k + 1) i = upN (atN L k (2 * i)) (atN L k (2 * i + 1)) ((k + 1 : Nat) : Int) (i : Int) from rfl)
    have HE := Lib.hid hE
    obtain ⟨x, hx⟩ : ∃ x, atN L k (2 * i) = x := ⟨_, rfl⟩
    obtain ⟨y, hy⟩ : ∃ x, atN L k (2 * i + 1) = x := ⟨_, rfl⟩
    rw [hx] at hx1 hx2 HEQ IH1
    rw [hy] at hy1 hy2 HEQ IH2
    have HX1 := Lib.hid hx1
    have HX2 := Lib.hid hx2
    have HY1 := Lib.hid hy1
    have HY2 := Lib.hid hy2
    have hUL := upN_len x y ((k + 1 : Nat) : Int) (i : Int)
    clear ih hi hi3 hi4 hE hx hy hx1 hx2 hy1 hy2
    go_enter Tryd.func29, Tryd.ntmps29
    go_upto_region 1 with (fail)
    change Code.wp _ _ _ _ (w.alloc (.cells (nums .u8 (List.replicate 16 0)).toArray 31))
    obtain ⟨w1, hw1⟩ : ∃ x', x' = w.alloc (.cells (nums .u8 (List.replicate 16 0)).toArray 31) := ⟨_, rfl⟩
    rw [← hw1]
    have hb1 : Below w.heap.size w w1 := by rw [hw1]; exact (Below.refl _ _).alloc (Nat.le_refl _) _
    have HR1 := Lib.hid (show Blk w.heap.size 31 .u8 (List.replicate 16 0) w1 by rw [hw1]; exact heap_alloc_new w _)
    have HB1 := Lib.hid hb1
    have HE1 := Lib.hid (HE.out.below hb1)
    obtain ⟨g, hg⟩ : ∃ g, g = w.heap.size := ⟨_, rfl⟩
    rw [← hg] at HR1 ⊢
    have HG := Lib.hid (show w.heap.size ≤ g by omega)
    clear hg hw1 hb1 HE
    have hk1 : (((k + 1 : Nat) : Int)) - 1 = (k : Int) := by omega
    go_wp2_with fail
    have c1 := IH1.out w1 HE1.out
    rw [show ((2 * i : Nat) : Int) = 2 * (i : Int) by omega] at c1
    refine c1.mono ?_
    rintro e w2 ⟨rfl, hb2⟩
    have HR2 := Lib.hid (HR1.out.below hb2)
    have HB2 := Lib.hid (HB1.out.trans (hb2.mono HB1.out.size))
    have HE2 := Lib.hid (HE1.out.below hb2)
    clear hb2 HR1 HB1 HE1 c1 IH1
    go_wp2_with fail
    have c2 := IH2.out w2 HE2.out
    rw [show ((2 * i + 1 : Nat) : Int) = 2 * (i : Int) + 1 by omega] at c2
    refine c2.mono ?_
    rintro e w3 ⟨rfl, hb3⟩
    have HR3 := Lib.hid (HR2.out.below hb3)
    have HB3 := Lib.hid (HB2.out.trans (hb3.mono HB2.out.size))
    clear hb3 HR2 HB2 HE2 c2 IH2
    go_wp2_with fail
    refine (ref_up x y ((k + 1 : Nat) : Int) (i : Int) w3 HX1.out HX2.out HY1.out HY2.out (by omega) (by omega) (by omega) (by omega)).mono ?_
    rintro e w4 ⟨rfl, hb4⟩
    have HR4 := Lib.hid (HR3.out.below hb4)
    have HB4 := Lib.hid (HB3.out.trans (hb4.mono HB3.out.size))
    clear hb4 HR3 HB3
    rw [← HEQ.out] at hUL ⊢
    obtain ⟨U, hU⟩ : ∃ U, atN L (k + 1) i = U := ⟨_, rfl⟩
    rw [hU] at hUL ⊢
    have HUL := Lib.hid hUL
    have HUE := Shut.mk hU
    clear hU hUL
    have HI := Lib.hid (show (Tryd.prog.info? 31).map (·.size) = some U.length by rw [HUL.out]; exact Tryd.infoE)
    have HL2 := Lib.hid (show (List.replicate 16 0).length = U.length by rw [HUL.out]; rfl)
    go_wp2_with (refine wpList_store_nums rfl 31 _ _ rfl rfl g .u8 _ U 31 rfl rfl HR4.out HI.out HL2.out ?_)
    intro w7 hc' hb'
    have HC7 := Lib.hid (show Blk g 31 .u8 U w7 from hc'.out)
    have HB7 := Lib.hid (show Below w.heap.size w w7 from But.toBelow HB4.out hb'.out HG.out HB4.out.size)
    clear hc' hb'
    go_wp2_with fail
    exact bodyPost_ret (results_nums rfl _ _ g .u8 _ 31 _ rfl HC7.out Tryd.underlying31 rfl HI.out) rfl ⟨by rw [HUE.out], HB7.out⟩

theorem half_bounds {a : Int} (h0 : -9223372036854775808 ≤ a) (h1 : a ≤ 9223372036854775807) (k : Nat) : -9223372036854775808 ≤ a / 2 ^ k ∧ a / 2 ^ k ≤ 9223372036854775807 := by
  induction k with
  | zero => simp; omega
  | succ k ih =>
    rw [← half_next]
    omega
theorem tmod_ne (c : Int) : (c.tmod 2 != 0) = !decide (c % 2 = 0) := by
  by_cases hn : c < 0
  · obtain ⟨_, h3⟩ := tdiv_two hn
    rw [h3, Bool.eq_iff_iff]
    simp
  · rw [Int.tmod_eq_emod_of_nonneg (by omega), Bool.eq_iff_iff]
    simp
theorem climbN_next (x : List Nat) (a : Int) (p : List (List Nat)) (j : Nat) : climbN x a p (j + 1) = stepN (climbN x a p j) (p.getD j []) (a / 2 ^ j) j := rfl

set_option maxHeartbeats 1000000 in
set_option maxRecDepth 100000 in
theorem ref_climb (x : List Nat) (a : Int) (p : List (List Nat)) (ao : Option Addr) (cap : Nat) (w : World) (hx : x.length = 16) (lx : ∀ y ∈ x, y < 256) (a0 : -9223372036854775808 ≤ a) (a1 : a ≤ 9223372036854775807)
    (hp : Elems p) (hE : EAt ao p w) (hn : p.length ≤ 9000000000000) :
    Calls Tryd.prog 43 #[.agg (nums .u8 x).toArray, .int .i64 a, .slice ao p.length cap] w fun e w' => e = .returned (.agg (nums .u8 (climbN x a p p.length)).toArray) ∧ Below w.heap.size w w' := by
  have HX := Lib.hid hx
  have LX := Lib.hid lx
  have HE := Lib.hid hE
  have EP := Lib.hid hp
  have HAB := Lib.hid (fun k => half_bounds a0 a1 k)
  clear hx lx hE hp a0 a1
  go_enter Tryd.func43, Tryd.ntmps43
  go_upto_region 1 with (fail)
  change Code.wp _ _ _ _ ((w.alloc (.cells (nums .u8 x).toArray 31)).alloc (.cells (nums .u8 (List.replicate 16 0)).toArray 31))
  obtain ⟨w1, hw1⟩ : ∃ x', x' = (w.alloc (.cells (nums .u8 x).toArray 31)).alloc (.cells (nums .u8 (List.replicate 16 0)).toArray 31) := ⟨_, rfl⟩
  rw [← hw1]
  have h3 : Blk w.heap.size 31 .u8 x w1 ∧ Blk (w.heap.size + 1) 31 .u8 (List.replicate 16 0) w1 ∧ Below w.heap.size w w1 := by rw [hw1]; exact two_new w _ _ _ _
  obtain ⟨hx1, hr1, hb1⟩ := h3
  obtain ⟨gr, hgr⟩ : ∃ g, g = w.heap.size + 1 := ⟨_, rfl⟩
  obtain ⟨gx, hgx⟩ : ∃ g, g = w.heap.size := ⟨_, rfl⟩
  rw [← hgr] at hr1 ⊢
  rw [← hgx] at hx1 ⊢
  have HGR := Lib.hid (show w.heap.size ≤ gr by omega)
  have HGX := Lib.hid (show w.heap.size ≤ gx by omega)
  have HNE := Lib.hid (show gx ≠ gr by omega)
  have HX1 := Lib.hid hx1
  have HR1 := Lib.hid hr1
  have HB1 := Lib.hid hb1
  clear hx1 hr1 hb1 hw1 hgr hgx
  go_wp2_with fail
  go_loopw [1, 12] (fun c n wq => ∃ k : Nat, k ≤ p.length ∧ n = .int .i64 k ∧ c = .int .i64 (a / 2 ^ k) ∧ Blk gx 31 .u8 (climbN x a p k) wq ∧ Blk gr 31 .u8 (List.replicate 16 0) wq ∧ Below w.heap.size w wq) (fun _ n _ => p.length - (intOf n).toNat)
  case atStart => exact ⟨0, by omega, rfl, by simp, HX1.out, HR1.out, HB1.out⟩
  case round =>
    clear HX1 HR1 HB1
    obtain ⟨k, hk, rfl, rfl, hxk, hrk, hb⟩ := hrel
    have HXK := Lib.hid hxk
    have HRK := Lib.hid hrk
    have HB := Lib.hid hb
    have HCL := Lib.hid (climbN_len HX.out a p k)
    have HCT := Lib.hid (climbN_lt LX.out a p k)
    by_cases hlk : k < p.length
    · obtain ⟨b, o, rfl, hbb⟩ := HE.out.some (by omega)
      have HY := Lib.hid (rangeAt_below (HE.out.get hlk) hb hbb)
      obtain ⟨hy1, hy2⟩ := EP.out.getD hlk
      obtain ⟨hc0, hc1⟩ := HAB.out k
      have HNX := Shut.mk (climbN_next x a p k)
      have HHN := Shut.mk (half_next a k)
      obtain ⟨c, hc⟩ : ∃ c, a / 2 ^ k = c := ⟨_, rfl⟩
      obtain ⟨y, hy⟩ : ∃ y, p.getD k [] = y := ⟨_, rfl⟩
      obtain ⟨z, hz⟩ : ∃ z, climbN x a p k = z := ⟨_, rfl⟩
      rw [hc] at hc0 hc1 HNX HHN ⊢
      rw [hy] at hy1 hy2 HY HNX
      rw [hz] at HXK HCL HCT HNX
      have HY1 := Lib.hid hy1
      have HY2 := Lib.hid hy2
      clear hxk hrk hb hc hy hz hy1 hy2
      have HIY := Lib.hid (show (Tryd.prog.info? 31).map (·.size) = some y.length by rw [HY1.out]; exact Tryd.infoE)
      have HIZ := Lib.hid (show (Tryd.prog.info? 31).map (·.size) = some z.length by rw [HCL.out]; exact Tryd.infoE)
      have HLY := Lib.hid (show (List.replicate 16 0).length = y.length by rw [HY1.out]; rfl)
      have HX8 := Lib.hid (show Blk wr.heap.size 31 .u8 (List.replicate 16 0) (wr.alloc (.cells (nums .u8 (List.replicate 16 0)).toArray 31)) from heap_alloc_new wr _)
      go_wp2_with (first
        | (refine wpList_load_elem rfl 31 _ rfl b (o + k * 16) y _ rfl HY.out Tryd.underlying31 rfl HIY.out ?_)
        | (refine wpList_store_nums rfl 31 _ _ rfl rfl wr.heap.size .u8 _ y 31 rfl rfl HX8.out HIY.out HLY.out ?_))
      intro w2 hc' hb'
      have hb2 : Below wr.heap.size wr w2 := But.toBelow ((Below.refl _ wr).alloc (Nat.le_refl _) _) hb'.out (Nat.le_refl _) (by simp)
      have HY5 := Lib.hid (show Blk wr.heap.size 31 .u8 y w2 from hc'.out)
      have HX5 := Lib.hid (HXK.out.below hb2)
      have HR5 := Lib.hid (HRK.out.below hb2)
      have HB5 := Lib.hid (HB.out.trans (hb2.mono HB.out.size))
      obtain ⟨gy, hgy⟩ : ∃ g, g = wr.heap.size := ⟨_, rfl⟩
      rw [← hgy] at HY5 ⊢
      clear hc' hb' hb2 hgy HXK HRK HB HX8 HLY
      go_wp2_with fail
      refine (half_any c _ hc0 hc1).mono ?_
      rintro e w3 ⟨rfl, rfl⟩
      by_cases hpar : c % 2 = 0
      · have h4 : (c.tmod 2 != 0) = false := by rw [tmod_ne]; simp [hpar]
        have HST := Shut.mk (show stepN z y c k = upN z y ((k + 1 : Nat) : Int) (c / 2) by unfold stepN; rw [if_pos hpar])
        go_wp2_with (first
          | (refine wpList_load_nums rfl 31 _ rfl gy .u8 _ 31 _ rfl HY5.out Tryd.underlying31 rfl HIY.out ?_)
          | (refine wpList_load_nums rfl 31 _ rfl gx .u8 _ 31 _ rfl HX5.out Tryd.underlying31 rfl HIZ.out ?_))
        refine (ref_up z y ((k + 1 : Nat) : Int) (c / 2) _ HCL.out HCT.out HY1.out HY2.out (by omega) (by omega) (by omega) (by omega)).mono ?_
        rintro e w4 ⟨rfl, hb4⟩
        have HX6 := Lib.hid (HX5.out.below hb4)
        have HR6 := Lib.hid (HR5.out.below hb4)
        have HB6 := Lib.hid (HB5.out.trans (hb4.mono HB5.out.size))
        clear hb4 HX5 HY5 HR5 HB5
        have HUL0 := upN_len z y ((k + 1 : Nat) : Int) (c / 2)
        obtain ⟨U, hU⟩ : ∃ U, upN z y ((k + 1 : Nat) : Int) (c / 2) = U := ⟨_, rfl⟩
        rw [hU] at HST HUL0 ⊢
        have HUL := Lib.hid HUL0
        have HCN := Shut.mk (show climbN x a p (k + 1) = U from HNX.out.trans HST.out)
        clear hU HUL0 HST HNX
        have HIU := Lib.hid (show (Tryd.prog.info? 31).map (·.size) = some U.length by rw [HUL.out]; exact Tryd.infoE)
        have HLU := Lib.hid (show z.length = U.length by rw [HUL.out, HCL.out])
        go_wp2_with (refine wpList_store_nums rfl 31 _ _ rfl rfl gx .u8 _ U 31 rfl rfl HX6.out HIU.out HLU.out ?_)
        intro w7 hc' hb'
        have HX7 := Lib.hid (show Blk gx 31 .u8 U w7 from hc'.out)
        have HR7 := Lib.hid (HR6.out.but hb'.out (Ne.symm HNE.out))
        have HB7 := Lib.hid (show Below w.heap.size w w7 from But.toBelow HB6.out hb'.out HGX.out HB6.out.size)
        clear hc' hb'
        go_wp2_with fail
        exact ⟨⟨k + 1, by omega, by go_num, by rw [← HHN.out], by rw [HCN.out]; exact HX7.out, HR7.out, HB7.out⟩, by simp [intOf]; omega⟩
      · have h4 : (c.tmod 2 != 0) = true := by rw [tmod_ne]; simp [hpar]
        have HST := Shut.mk (show stepN z y c k = upN y z ((k + 1 : Nat) : Int) (c / 2) by unfold stepN; rw [if_neg hpar])
        go_wp2_with (first
          | (refine wpList_load_nums rfl 31 _ rfl gy .u8 _ 31 _ rfl HY5.out Tryd.underlying31 rfl HIY.out ?_)
          | (refine wpList_load_nums rfl 31 _ rfl gx .u8 _ 31 _ rfl HX5.out Tryd.underlying31 rfl HIZ.out ?_))
        refine (ref_up y z ((k + 1 : Nat) : Int) (c / 2) _ HY1.out HY2.out HCL.out HCT.out (by omega) (by omega) (by omega) (by omega)).mono ?_
        rintro e w4 ⟨rfl, hb4⟩
        have HX6 := Lib.hid (HX5.out.below hb4)
        have HR6 := Lib.hid (HR5.out.below hb4)
        have HB6 := Lib.hid (HB5.out.trans (hb4.mono HB5.out.size))
        clear hb4 HX5 HY5 HR5 HB5
        have HUL0 := upN_len y z ((k + 1 : Nat) : Int) (c / 2)
        obtain ⟨U, hU⟩ : ∃ U, upN y z ((k + 1 : Nat) : Int) (c / 2) = U := ⟨_, rfl⟩
        rw [hU] at HST HUL0 ⊢
        have HUL := Lib.hid HUL0
        have HCN := Shut.mk (show climbN x a p (k + 1) = U from HNX.out.trans HST.out)
        clear hU HUL0 HST HNX
        have HIU := Lib.hid (show (Tryd.prog.info? 31).map (·.size) = some U.length by rw [HUL.out]; exact Tryd.infoE)
        have HLU := Lib.hid (show z.length = U.length by rw [HUL.out, HCL.out])
        go_wp2_with (refine wpList_store_nums rfl 31 _ _ rfl rfl gx .u8 _ U 31 rfl rfl HX6.out HIU.out HLU.out ?_)
        intro w7 hc' hb'
        have HX7 := Lib.hid (show Blk gx 31 .u8 U w7 from hc'.out)
        have HR7 := Lib.hid (HR6.out.but hb'.out (Ne.symm HNE.out))
        have HB7 := Lib.hid (show Below w.heap.size w w7 from But.toBelow HB6.out hb'.out HGX.out HB6.out.size)
        clear hc' hb'
        go_wp2_with fail
        exact ⟨⟨k + 1, by omega, by go_num, by rw [← HHN.out], by rw [HCN.out]; exact HX7.out, HR7.out, HB7.out⟩, by simp [intOf]; omega⟩
    · obtain rfl : k = p.length := by omega
      have HIZ := Lib.hid (show (Tryd.prog.info? 31).map (·.size) = some (climbN x a p p.length).length by rw [HCL.out]; exact Tryd.infoE)
      have HLZ := Lib.hid (show (List.replicate 16 0).length = (climbN x a p p.length).length by rw [HCL.out]; rfl)
      obtain ⟨z, hz⟩ : ∃ z, climbN x a p p.length = z := ⟨_, rfl⟩
      rw [hz] at HXK HIZ HLZ
      have HZ := Shut.mk hz
      clear hxk hrk hb hz HCL HCT
      go_wp2_with (first
        | (refine wpList_load_nums rfl 31 _ rfl gx .u8 _ 31 _ rfl HXK.out Tryd.underlying31 rfl HIZ.out ?_)
        | (refine wpList_store_nums rfl 31 _ _ rfl rfl gr .u8 _ z 31 rfl rfl HRK.out HIZ.out HLZ.out ?_))
      intro w7 hc' hb'
      have HC7 := Lib.hid (show Blk gr 31 .u8 z w7 from hc'.out)
      have HB7 := Lib.hid (show Below w.heap.size w w7 from But.toBelow HB.out hb'.out HGR.out HB.out.size)
      clear hc' hb'
      go_wp2_with fail
      exact bodyPost_ret (results_nums rfl _ _ gr .u8 _ 31 _ rfl HC7.out Tryd.underlying31 rfl HIZ.out) rfl ⟨by rw [HZ.out], HB7.out⟩

theorem bit_one (c : Int) : bits .and .i64 c 1 = c % 2 := by
  have h := and_one_i64 c
  show IntKind.i64.wrap ((BitVec.ofInt 64 c &&& BitVec.ofInt 64 1).toNat : Int) = c % 2
  rw [h]
  rcases (by omega : c % 2 = 0 ∨ c % 2 = 1) with h | h <;> rw [h] <;> rfl

set_option maxHeartbeats 4000000 in
set_option maxRecDepth 100000 in
theorem dev_climb (x : List Nat) (a : Int) (p : List (List Nat)) (ao : Option Addr) (cap : Nat) (w : World) (hx : x.length = 16) (lx : ∀ y ∈ x, y < 256) (a0 : -9223372036854775808 ≤ a) (a1 : a ≤ 9223372036854775807)
    (hp : Elems p) (hE : EAt ao p w) (hn : p.length ≤ 9000000000000) (hkat : KAt w) :
    Calls Tryd.prog 40 #[.agg (nums .u8 x).toArray, .int .i64 a, .slice ao p.length cap] w fun e w' => e = .returned (.agg (nums .u8 (climbN x a p p.length)).toArray) ∧ Below w.heap.size w w' := by
  have HX := Lib.hid hx
  have LX := Lib.hid lx
  have HE := Lib.hid hE
  have EP := Lib.hid hp
  have HK := Lib.hid hkat
  have HAB := Lib.hid (fun k => half_bounds a0 a1 k)
  have HAL := Lib.hid (show ∀ w : World, (Instr.alloc 31 true (.tuple #[])).run Tryd.prog w = .ok (.pointer (some ⟨w.heap.size, 0, none⟩)) (w.alloc (.cells (nums .u8 (List.replicate 16 0)).toArray 31)) from fun w => by kernel_rfl)
  have HIX := Lib.hid (show (Tryd.prog.info? 31).map (·.size) = some x.length by rw [hx]; exact Tryd.infoE)
  have HLX := Lib.hid (show (List.replicate 16 0).length = x.length by rw [hx]; rfl)
  clear hx lx hE hp a0 a1 hkat
  go_enter Tryd.func40, Tryd.ntmps40
  go_upto_region 1 with (fail)
  change Code.wp _ _ _ _ ((w.alloc (.cells (nums .u8 x).toArray 31)).alloc (.cells (nums .u8 (List.replicate 16 0)).toArray 31))
  obtain ⟨w1, hw1⟩ : ∃ x', x' = (w.alloc (.cells (nums .u8 x).toArray 31)).alloc (.cells (nums .u8 (List.replicate 16 0)).toArray 31) := ⟨_, rfl⟩
  rw [← hw1]
  have h3 : Blk w.heap.size 31 .u8 x w1 ∧ Blk (w.heap.size + 1) 31 .u8 (List.replicate 16 0) w1 ∧ Below w.heap.size w w1 := by rw [hw1]; exact two_new w _ _ _ _
  obtain ⟨hl1, hr1, hb1⟩ := h3
  obtain ⟨gr, hgr⟩ : ∃ g, g = w.heap.size + 1 := ⟨_, rfl⟩
  obtain ⟨gl, hgl⟩ : ∃ g, g = w.heap.size := ⟨_, rfl⟩
  rw [← hgr] at hr1 ⊢
  rw [← hgl] at hl1 ⊢
  have HGR := Lib.hid (show w.heap.size ≤ gr by omega)
  have HL1 := Lib.hid hl1
  have HR1 := Lib.hid hr1
  have HB1 := Lib.hid hb1
  have HX8 := Lib.hid (show Blk w1.heap.size 31 .u8 (List.replicate 16 0) (w1.alloc (.cells (nums .u8 (List.replicate 16 0)).toArray 31)) from heap_alloc_new w1 _)
  clear hl1 hr1 hb1 hw1 hgr hgl
  go_wp2_with (first
    | (refine wpList_load_nums rfl 31 _ rfl gl .u8 _ 31 _ rfl HL1.out Tryd.underlying31 rfl HIX.out ?_)
    | (refine wpList_store_nums rfl 31 _ _ rfl rfl w1.heap.size .u8 _ x 31 rfl rfl HX8.out HIX.out HLX.out ?_))
  intro w2 hc' hb'
  have hb2 : Below w1.heap.size w1 w2 := But.toBelow ((Below.refl _ w1).alloc (Nat.le_refl _) _) hb'.out (Nat.le_refl _) (by simp)
  have HX2 := Lib.hid (show Blk w1.heap.size 31 .u8 x w2 from hc'.out)
  have HR2 := Lib.hid (HR1.out.below hb2)
  have HB2 := Lib.hid (HB1.out.trans (hb2.mono HB1.out.size))
  have HGX := Lib.hid (show w.heap.size ≤ w1.heap.size from HB1.out.size)
  have HNE := Lib.hid (show w1.heap.size ≠ gr from Ne.symm (Nat.ne_of_lt HR1.out.lt))
  obtain ⟨gx, hgx⟩ : ∃ g, g = w1.heap.size := ⟨_, rfl⟩
  rw [← hgx] at HX2 HGX HNE ⊢
  clear hc' hb' hb2 hgx HL1 HR1 HB1 HX8 HLX HIX
  go_wp2_with fail
  go_loopw [1, 15] (fun c n wq => ∃ k : Nat, k ≤ p.length ∧ n = .int .i64 k ∧ c = .int .i64 (a / 2 ^ k) ∧ Blk gx 31 .u8 (climbN x a p k) wq ∧ Blk gr 31 .u8 (List.replicate 16 0) wq ∧ Below w.heap.size w wq) (fun _ n _ => p.length - (intOf n).toNat)
  case atStart => exact ⟨0, by omega, rfl, by simp, HX2.out, HR2.out, HB2.out⟩
  case round =>
    clear HX2 HR2 HB2
    obtain ⟨k, hk, rfl, rfl, hxk, hrk, hb⟩ := hrel
    have HXK := Lib.hid hxk
    have HRK := Lib.hid hrk
    have HB := Lib.hid hb
    have HCL := Lib.hid (climbN_len HX.out a p k)
    have HCT := Lib.hid (climbN_lt LX.out a p k)
    by_cases hlk : k < p.length
    · obtain ⟨b, o, rfl, hbb⟩ := HE.out.some (by omega)
      have HY := Lib.hid (rangeAt_below (HE.out.get hlk) hb hbb)
      obtain ⟨hy1, hy2⟩ := EP.out.getD hlk
      obtain ⟨hc0, hc1⟩ := HAB.out k
      have HNX := Shut.mk (climbN_next x a p k)
      have HHN := Shut.mk (half_next a k)
      obtain ⟨c, hc⟩ : ∃ c, a / 2 ^ k = c := ⟨_, rfl⟩
      obtain ⟨y, hy⟩ : ∃ y, p.getD k [] = y := ⟨_, rfl⟩
      obtain ⟨z, hz⟩ : ∃ z, climbN x a p k = z := ⟨_, rfl⟩
      rw [hc] at hc0 hc1 HNX HHN ⊢
      rw [hy] at hy1 hy2 HY HNX
      rw [hz] at HXK HCL HCT HNX
      have HY1 := Lib.hid hy1
      have HY2 := Lib.hid hy2
      clear hxk hrk hb hc hy hz hy1 hy2
      have HIY := Lib.hid (show (Tryd.prog.info? 31).map (·.size) = some y.length by rw [HY1.out]; exact Tryd.infoE)
      have HIZ := Lib.hid (show (Tryd.prog.info? 31).map (·.size) = some z.length by rw [HCL.out]; exact Tryd.infoE)
      have HLY := Lib.hid (show (List.replicate 16 0).length = y.length by rw [HY1.out]; rfl)
      have HLZ := Lib.hid (show (List.replicate 16 0).length = z.length by rw [HCL.out]; rfl)
      have HX8 := Lib.hid (show Blk wr.heap.size 31 .u8 (List.replicate 16 0) (wr.alloc (.cells (nums .u8 (List.replicate 16 0)).toArray 31)) from heap_alloc_new wr _)
      go_wp2_with (first
        | (refine wpList_load_elem rfl 31 _ rfl b (o + k * 16) y _ rfl HY.out Tryd.underlying31 rfl HIY.out ?_)
        | (refine wpList_store_nums rfl 31 _ _ rfl rfl wr.heap.size .u8 _ y 31 rfl rfl HX8.out HIY.out HLY.out ?_))
      intro w2 hc' hb'
      have hb2 : Below wr.heap.size wr w2 := But.toBelow ((Below.refl _ wr).alloc (Nat.le_refl _) _) hb'.out (Nat.le_refl _) (by simp)
      have HY5 := Lib.hid (show Blk wr.heap.size 31 .u8 y w2 from hc'.out)
      have HX5 := Lib.hid (HXK.out.below hb2)
      have HR5 := Lib.hid (HRK.out.below hb2)
      have HB5 := Lib.hid (HB.out.trans (hb2.mono HB.out.size))
      obtain ⟨gy, hgy⟩ : ∃ g, g = wr.heap.size := ⟨_, rfl⟩
      have HNY := Lib.hid (show gy < w2.heap.size from by rw [hgy]; exact HY5.out.lt)
      rw [← hgy] at HY5 ⊢
      clear hc' hb' hb2 hgy HXK HRK HB HX8
      go_upto_region 5 with (fail)
      refine wp_region_free 5 (fun s V w' => Below w2.heap.size w2 w' ∧ Val s V 0 (.agg (nums .u8 z).toArray) ∧ Val s V 1 (.agg (nums .u8 y).toArray) ∧ Put s V w2.heap.size 2 4 31 .u8 (List.replicate 16 0) z w' ∧ New s V w2.heap.size 3 31 .u8 (List.replicate 16 0) w' ∧ Two s V 2 3 ∧ Late s 2 4) (fun | 0 => u20 | 1 => u21 | 2 => u10 | 3 => u11 | _ => undef) (by kernel_rfl) (by kernel_rfl) (by kernel_rfl) rfl ⟨(Below.refl _ _).drew, Val.none, Val.none, Put.none, New.none, Two.none, Late.none⟩ ?_ ?_
      · simp only [List.take_succ_cons, List.take_zero, putAll, Nat.zero_add, Nat.reduceAdd, Act.put, List.setIfInBounds_toArray, List.set_cons_zero, List.set_cons_succ]
        refine FreeSteps.cons ?_ (FreeSteps.cons ?_ (FreeSteps.cons ?_ (FreeSteps.cons ?_ (FreeSteps.cons ?_ FreeSteps.nil))))
        all_goals (refine FreeStep.fresh rfl ?_; rintro s V wq hr hu ⟨hB, h0, h1, h2, h3, h4, hl⟩ K hK)
        · exact op_load_nums 31 (.tmp 7) rfl gx .u8 z 31 _ rfl (HX5.out.below hB) Tryd.underlying31 rfl HIZ.out (hK _ _ ⟨hB, .same, h1.ne (by decide), h2.ne (by decide) (by decide) (Below.refl _ _), h3.ne (by decide) (Below.refl _ _), h4.ne (by decide) (by decide), hl.ne (by decide)⟩)
        · exact op_load_nums 31 (.tmp 9) rfl gy .u8 y 31 _ rfl (HY5.out.below hB) Tryd.underlying31 rfl HIY.out (hK _ _ ⟨hB, h0.ne (by decide), .same, h2.ne (by decide) (by decide) (Below.refl _ _), h3.ne (by decide) (Below.refl _ _), h4.ne (by decide) (by decide), hl.ne (by decide)⟩)
        · have hb : Below wq.heap.size wq (wq.alloc (.cells (nums .u8 (List.replicate 16 0)).toArray 31)) := (Below.refl _ _).alloc (Nat.le_refl _) _
          exact op_alloc 31 rfl _ HAL.out (hK _ _ ⟨hB.trans (hb.mono hB.size), h0.ne (by decide), h1.ne (by decide), .made hB.size (hl.not hu) (by decide), h3.ne (by decide) hb, .left h3 (by decide), hl.ne (by decide)⟩)
        · have hb : Below wq.heap.size wq (wq.alloc (.cells (nums .u8 (List.replicate 16 0)).toArray 31)) := (Below.refl _ _).alloc (Nat.le_refl _) _
          exact op_alloc 31 rfl _ HAL.out (hK _ _ ⟨hB.trans (hb.mono hB.size), h0.ne (by decide), h1.ne (by decide), h2.ne (by decide) (by decide) hb, .same hB.size, Two.right (l := if s 4 = true then z else List.replicate 16 0) h2 (by decide), hl.ne (by decide)⟩)
        · have s2 := hr { on := 2, ground := .data } (by simp) rfl
          obtain ⟨g, e2, hg, hk2⟩ := h2 s2
          rw [if_neg (by rw [hu]; decide)] at hk2
          refine op_store_nums 31 (.tmp 10) (.tmp 20) rfl g .u8 _ z 31 e2 (h0 (hr { on := 0, ground := .data } (by simp) rfl)) hk2 HIZ.out HLZ.out ?_
          intro w' hc hb
          refine hK _ _ ⟨But.toBelow hB hb hg hB.size, h0.ne (by decide), h1.ne (by decide), .stored e2 hg (by decide) hc, ?_, h4.ne (by decide) (by decide), .same s2⟩
          intro hs
          have s3 := seen_ne (by decide) hs
          obtain ⟨g3, e3, hg3, hk3⟩ := h3 s3
          exact ⟨g3, by rw [upd_ne _ _ (by decide)]; exact e3, hg3, hk3.but hb (fun e => h4 s2 s3 (by rw [e2, e3, e]))⟩
      · rintro s V w4 hall ⟨hB, h0, h1, h2, h3, h4, hl⟩
        have v0 := h0 (hall 0 (by decide))
        have v1 := h1 (hall 1 (by decide))
        obtain ⟨ga, v2, hga, ha⟩ := h2 (hall 2 (by decide))
        rw [if_pos (hall 4 (by decide))] at ha
        obtain ⟨gb, v3, hgb, hb⟩ := h3 (hall 3 (by decide))
        have hne : ga ≠ gb := fun e => h4 (hall 2 (by decide)) (hall 3 (by decide)) (by rw [v2, v3, e])
        simp only [List.take_succ_cons, List.take_zero, List.drop_succ_cons, List.drop_zero, putAll, Nat.zero_add, Nat.reduceAdd, v0, v1, v2, v3, Act.put, List.setIfInBounds_toArray, List.set_cons_zero, List.set_cons_succ]
        clear h0 h1 h2 h3 h4 hl v0 v1 v2 v3 hall
        have HXL := Lib.hid HX5.out.lt
        have HRL := Lib.hid HR5.out.lt
        have HBL := Lib.hid HB5.out.size
        have HX7 := Lib.hid (HX5.out.below hB)
        have HY7 := Lib.hid (HY5.out.below hB)
        have HR7 := Lib.hid (HR5.out.below hB)
        have HB7 := Lib.hid (HB5.out.trans (hB.mono HB5.out.size))
        have HA7 := Lib.hid ha
        have HZ7 := Lib.hid hb
        have HAZ := Lib.hid hne
        have HGA := Lib.hid hga
        have HGB := Lib.hid hgb
        clear hB ha hb hne hga hgb HX5 HY5 HR5 HB5
        go_wp2_with (refine wpList_store_nums rfl 31 _ _ rfl rfl gb .u8 _ y 31 rfl rfl HZ7.out HIY.out HLY.out ?_)
        intro w5 hc hb
        have HX8 := Lib.hid (HX7.out.but hb.out (by have := HGB.out; have := HXL.out; omega))
        have HY8 := Lib.hid (HY7.out.but hb.out (by have := HGB.out; have := HNY.out; omega))
        have HR8 := Lib.hid (HR7.out.but hb.out (by have := HGB.out; have := HRL.out; omega))
        have HB8 := Lib.hid (show Below w.heap.size w w5 from But.toBelow HB7.out hb.out (by have := HGB.out; have := HBL.out; omega) HB7.out.size)
        have HA8 := Lib.hid (HA7.out.but hb.out HAZ.out)
        have HZ8 := Lib.hid (show Blk gb 31 .u8 y w5 from hc.out)
        clear hc hb HX7 HY7 HR7 HB7 HZ7 HA7
        have HBIT := Shut.mk (bit_one c)
        by_cases hpar : c % 2 = 0
        · have h4 : bits .and .i64 c 1 = 0 := HBIT.out.trans hpar
          clear HBIT
          have HST := Shut.mk (show stepN z y c k = upN z y ((k + 1 : Nat) : Int) (c / 2) by unfold stepN; rw [if_pos hpar])
          go_wp2_with (first
            | (refine wpList_load_nums rfl 31 _ rfl ga .u8 _ 31 _ rfl HA8.out Tryd.underlying31 rfl HIZ.out ?_)
            | (refine wpList_load_nums rfl 31 _ rfl gb .u8 _ 31 _ rfl HZ8.out Tryd.underlying31 rfl HIY.out ?_))
          refine (dev_up z y ((k + 1 : Nat) : Int) (c / 2) _ HCL.out HCT.out HY1.out HY2.out (by omega) (by omega) (by omega) (by omega) (HK.out.below HB8.out)).mono ?_
          rintro e w8 ⟨rfl, hb8⟩
          have HX11 := Lib.hid (HX8.out.below hb8)
          have HR11 := Lib.hid (HR8.out.below hb8)
          have HB11 := Lib.hid (HB8.out.trans (hb8.mono HB8.out.size))
          clear hb8 HX8 HR8 HB8 HA8 HZ8
          have HUL0 := upN_len z y ((k + 1 : Nat) : Int) (c / 2)
          obtain ⟨U, hU⟩ : ∃ U, upN z y ((k + 1 : Nat) : Int) (c / 2) = U := ⟨_, rfl⟩
          rw [hU] at HST HUL0 ⊢
          have HUL := Lib.hid HUL0
          have HCN := Shut.mk (show climbN x a p (k + 1) = U from HNX.out.trans HST.out)
          clear hU HUL0 HST HNX
          have HIU := Lib.hid (show (Tryd.prog.info? 31).map (·.size) = some U.length by rw [HUL.out]; exact Tryd.infoE)
          have HLU := Lib.hid (show z.length = U.length by rw [HUL.out, HCL.out])
          go_wp2_with (refine wpList_store_nums rfl 31 _ _ rfl rfl gx .u8 _ U 31 rfl rfl HX11.out HIU.out HLU.out ?_)
          intro w9 hc' hb'
          have HX12 := Lib.hid (show Blk gx 31 .u8 U w9 from hc'.out)
          have HR12 := Lib.hid (HR11.out.but hb'.out (Ne.symm HNE.out))
          have HB12 := Lib.hid (show Below w.heap.size w w9 from But.toBelow HB11.out hb'.out HGX.out HB11.out.size)
          clear hc' hb'
          go_wp2_with fail
          exact ⟨⟨k + 1, by omega, by go_num, by rw [← HHN.out], by rw [HCN.out]; exact HX12.out, HR12.out, HB12.out⟩, by simp [intOf]; omega⟩
        · have h4 : bits .and .i64 c 1 = 1 := HBIT.out.trans (by omega)
          clear HBIT
          go_upto_region 7 with (fail)
          have HLZY := Lib.hid (show y.length = z.length by rw [HY1.out, HCL.out])
          have NY := Lib.hid (show gy ≠ ga by have := HGA.out; have := HNY.out; omega)
          have NX := Lib.hid (show gx ≠ ga by have := HGA.out; have := HXL.out; omega)
          have NR := Lib.hid (show gr ≠ ga by have := HGA.out; have := HRL.out; omega)
          refine wp_region_free 3 (fun s V w' => But ga w5 w' ∧ Val s V 0 (.agg (nums .u8 y).toArray) ∧ Val s V 1 (.agg (nums .u8 z).toArray) ∧ ∃ q, Blk ga 31 .u8 q w' ∧ q.length = 16 ∧ (s 2 = true → q = y)) (fun | 0 => u25 | 1 => u26 | _ => undef) (by kernel_rfl) (by kernel_rfl) (by kernel_rfl) rfl ⟨(But.refl _ _).drew, Val.none, Val.none, z, HA8.out, HCL.out, fun h => by cases h⟩ ?_ ?_
          · simp only [List.take_succ_cons, List.take_zero, putAll, Nat.zero_add, Act.put, List.setIfInBounds_toArray, List.set_cons_zero, List.set_cons_succ]
            refine FreeSteps.cons ?_ (FreeSteps.cons ?_ (FreeSteps.cons ?_ FreeSteps.nil))
            all_goals (refine FreeStep.plain rfl ?_; rintro s V wq hr ⟨hB, h0, h1, q, hq, hql, hqe⟩ K hK)
            · exact op_load_nums 31 (.tmp 9) rfl gy .u8 y 31 _ rfl (HY8.out.but hB NY.out) Tryd.underlying31 rfl HIY.out (hK _ _ ⟨hB, .same, h1.ne (by decide), q, hq, hql, fun h => hqe (seen_ne (by decide) h)⟩)
            · exact op_load_nums 31 (.tmp 7) rfl gx .u8 z 31 _ rfl (HX8.out.but hB NX.out) Tryd.underlying31 rfl HIZ.out (hK _ _ ⟨hB, h0.ne (by decide), .same, q, hq, hql, fun h => hqe (seen_ne (by decide) h)⟩)
            · refine op_store_nums 31 (.tmp 10) (.tmp 25) rfl ga .u8 q y 31 rfl (h0 (hr { on := 0, ground := .data } (by simp) rfl)) hq HIY.out (by rw [hql, HY1.out]) ?_
              intro w' hc hb
              exact hK _ _ ⟨hB.trans hb, h0.ne (by decide), h1.ne (by decide), y, hc, HY1.out, fun _ => rfl⟩
          rintro s V w7 hall ⟨hB, h0, h1, q, hq, hql, hqe⟩
          have v0 := h0 (hall 0 (by decide))
          have v1 := h1 (hall 1 (by decide))
          rw [hqe (hall 2 (by decide))] at hq
          simp only [List.take_succ_cons, List.take_zero, List.drop_succ_cons, List.drop_zero, putAll, Nat.zero_add, v0, v1, Act.put, List.setIfInBounds_toArray, List.set_cons_zero, List.set_cons_succ]
          clear h0 h1 v0 v1 hall
          have HX10 := Lib.hid (HX8.out.but hB NX.out)
          have HR10 := Lib.hid (HR8.out.but hB NR.out)
          have HZ10 := Lib.hid (HZ8.out.but hB (Ne.symm HAZ.out))
          have HA10 := Lib.hid (show Blk ga 31 .u8 y w7 from hq)
          have HB10 := Lib.hid (show Below w.heap.size w w7 from But.toBelow HB8.out hB (by have := HGA.out; have := HBL.out; omega) HB8.out.size)
          clear hB hq hql hqe HX8 HY8 HR8 HA8 HZ8 HB8 NY NX NR
          go_wp2_with (refine wpList_store_nums rfl 31 _ _ rfl rfl gb .u8 _ z 31 rfl rfl HZ10.out HIZ.out HLZY.out ?_)
          intro w8 hc hb
          have HX13 := Lib.hid (HX10.out.but hb.out (by have := HGB.out; have := HXL.out; omega))
          have HR13 := Lib.hid (HR10.out.but hb.out (by have := HGB.out; have := HRL.out; omega))
          have HB13 := Lib.hid (show Below w.heap.size w w8 from But.toBelow HB10.out hb.out (by have := HGB.out; have := HBL.out; omega) HB10.out.size)
          have HA13 := Lib.hid (HA10.out.but hb.out HAZ.out)
          have HZ13 := Lib.hid (show Blk gb 31 .u8 z w8 from hc.out)
          clear hc hb HX10 HR10 HB10 HZ10 HA10
          have HST := Shut.mk (show stepN z y c k = upN y z ((k + 1 : Nat) : Int) (c / 2) by unfold stepN; rw [if_neg hpar])
          go_wp2_with (first
            | (refine wpList_load_nums rfl 31 _ rfl ga .u8 _ 31 _ rfl HA13.out Tryd.underlying31 rfl HIY.out ?_)
            | (refine wpList_load_nums rfl 31 _ rfl gb .u8 _ 31 _ rfl HZ13.out Tryd.underlying31 rfl HIZ.out ?_))
          refine (dev_up y z ((k + 1 : Nat) : Int) (c / 2) _ HY1.out HY2.out HCL.out HCT.out (by omega) (by omega) (by omega) (by omega) (HK.out.below HB13.out)).mono ?_
          rintro e w8 ⟨rfl, hb8⟩
          have HX11 := Lib.hid (HX13.out.below hb8)
          have HR11 := Lib.hid (HR13.out.below hb8)
          have HB11 := Lib.hid (HB13.out.trans (hb8.mono HB13.out.size))
          clear hb8 HX13 HR13 HB13 HA13 HZ13
          have HUL0 := upN_len y z ((k + 1 : Nat) : Int) (c / 2)
          obtain ⟨U, hU⟩ : ∃ U, upN y z ((k + 1 : Nat) : Int) (c / 2) = U := ⟨_, rfl⟩
          rw [hU] at HST HUL0 ⊢
          have HUL := Lib.hid HUL0
          have HCN := Shut.mk (show climbN x a p (k + 1) = U from HNX.out.trans HST.out)
          clear hU HUL0 HST HNX
          have HIU := Lib.hid (show (Tryd.prog.info? 31).map (·.size) = some U.length by rw [HUL.out]; exact Tryd.infoE)
          have HLU := Lib.hid (show z.length = U.length by rw [HUL.out, HCL.out])
          go_wp2_with (refine wpList_store_nums rfl 31 _ _ rfl rfl gx .u8 _ U 31 rfl rfl HX11.out HIU.out HLU.out ?_)
          intro w9 hc' hb'
          have HX12 := Lib.hid (show Blk gx 31 .u8 U w9 from hc'.out)
          have HR12 := Lib.hid (HR11.out.but hb'.out (Ne.symm HNE.out))
          have HB12 := Lib.hid (show Below w.heap.size w w9 from But.toBelow HB11.out hb'.out HGX.out HB11.out.size)
          clear hc' hb'
          go_wp2_with fail
          exact ⟨⟨k + 1, by omega, by go_num, by rw [← HHN.out], by rw [HCN.out]; exact HX12.out, HR12.out, HB12.out⟩, by simp [intOf]; omega⟩
    · obtain rfl : k = p.length := by omega
      have HIZ := Lib.hid (show (Tryd.prog.info? 31).map (·.size) = some (climbN x a p p.length).length by rw [HCL.out]; exact Tryd.infoE)
      have HLZ := Lib.hid (show (List.replicate 16 0).length = (climbN x a p p.length).length by rw [HCL.out]; rfl)
      obtain ⟨z, hz⟩ : ∃ z, climbN x a p p.length = z := ⟨_, rfl⟩
      rw [hz] at HXK HIZ HLZ
      have HZ := Shut.mk hz
      clear hxk hrk hb hz HCL HCT
      go_wp2_with (first
        | (refine wpList_load_nums rfl 31 _ rfl gx .u8 _ 31 _ rfl HXK.out Tryd.underlying31 rfl HIZ.out ?_)
        | (refine wpList_store_nums rfl 31 _ _ rfl rfl gr .u8 _ z 31 rfl rfl HRK.out HIZ.out HLZ.out ?_))
      intro w7 hc' hb'
      have HC7 := Lib.hid (show Blk gr 31 .u8 z w7 from hc'.out)
      have HB7 := Lib.hid (show Below w.heap.size w w7 from But.toBelow HB.out hb'.out HGR.out HB.out.size)
      clear hc' hb'
      go_wp2_with fail
      exact bodyPost_ret (results_nums rfl _ _ gr .u8 _ 31 _ rfl HC7.out Tryd.underlying31 rfl HIZ.out) rfl ⟨by rw [HZ.out], HB7.out⟩

theorem sib_fit {h k i : Nat} (hk : k < h) (hi : i < 2 ^ h) : (sibN (i / 2 ^ k) + 1) * 2 ^ k ≤ 2 ^ h :=
  Nat.le_trans (Nat.mul_le_mul_right _ (sib_lt hk hi)) (Nat.div_mul_le_self _ _)

set_option maxHeartbeats 1000000 in
set_option maxRecDepth 100000 in
theorem ref_path (L : List (List Nat)) (i h : Nat) (ao : Option Addr) (cap : Nat) (w : World) (hL : Elems L) (hE : EAt ao L w) (hn : L.length = 2 ^ h) (h8 : h ≤ 8) (hi : i < L.length) :
    Calls Tryd.prog 38 #[.slice ao L.length cap, .int .i64 i] w fun e w' => (∃ v, e = .returned v ∧ OwnE w.heap.size 31 v (pathN L i h) w') ∧ Below w.heap.size w w' := by
  have HE := Lib.hid hE
  have LE := Lib.hid hL
  have HH := Shut.mk (show heightN L.length = h by rw [hn, heightN_pow])
  have h256 : L.length ≤ 256 := by rw [hn]; exact Nat.le_trans (Nat.pow_le_pow_right (by decide) h8) (by decide)
  have HF := Lib.hid (fun k (hk : k < h) => show (sibN (i / 2 ^ k) + 1) * 2 ^ k ≤ L.length by rw [hn]; exact sib_fit hk (by rw [← hn]; exact hi))
  have HQ := Lib.hid (fun k => show i / 2 ^ k ≤ 256 from Nat.le_trans (Nat.div_le_self _ _) (by omega))
  clear hE hL hn
  go_enter Tryd.func38, Tryd.ntmps38
  go_wp2_with fail
  go_loopw [1, 5, 6] (fun a v n wq => ∃ k : Nat, k ≤ h ∧ n = .int .i64 k ∧ a = .int .i64 ((i / 2 ^ k : Nat) : Int) ∧ OwnE w.heap.size 31 v (pathN L i k) wq ∧ Below w.heap.size w wq) (fun _ _ n _ => h - (intOf n).toNat)
  case atStart => exact ⟨0, by omega, rfl, by simp, OwnE.nil _ _ _, Below.refl _ _⟩
  case round =>
    obtain ⟨k, hk, rfl, rfl, ho, hb⟩ := hrel
    have HB := Lib.hid hb
    have HO0 := Lib.hid ho
    clear ho hb
    go_wp2_with fail
    refine (height_any L.length wr (by omega)).mono ?_
    rintro e w1 ⟨rfl, rfl⟩
    rw [HH.out]
    by_cases hlk : k < h
    · have hlk2 : (k : Int) < (h : Int) := by omega
      have ho := HO0.out
      clear HO0
      obtain ⟨a1, c1, rfl⟩ := ho.form
      rw [pathN_len] at ho ⊢
      have HO := Lib.hid ho
      have HP := Shut.mk (pathN_next L i k)
      have HPL := Shut.mk (pathN_len L i k)
      have HE1 := Lib.hid (HE.out.below HB.out)
      have hf := HF.out k hlk
      have hd := HQ.out k
      have HD := Shut.mk (show i / 2 ^ (k + 1) = i / 2 ^ k / 2 by rw [Nat.pow_succ, Nat.div_div_eq_div_mul])
      obtain ⟨q, hq⟩ : ∃ q, i / 2 ^ k = q := ⟨_, rfl⟩
      obtain ⟨M, hM⟩ : ∃ M, pathN L i k = M := ⟨_, rfl⟩
      rw [hq] at HP HD hf hd ⊢
      rw [hM] at HO HP HPL
      clear ho hq hM
      by_cases hpar : q % 2 = 1
      · have HS := Shut.mk (show sibN q = q - 1 by unfold sibN; rw [if_pos hpar])
        rw [HS.out] at hf HP
        have hp2 : ((q : Int) % 2 = 1) := by omega
        have HF1 := Lib.hid (show (q - 1 + 1) * 2 ^ k ≤ L.length from hf)
        obtain ⟨hx1, hx2⟩ := atN_ok LE.out k (q - 1) (Nat.lt_of_lt_of_le (Nat.mul_lt_mul_of_pos_right (Nat.lt_succ_self _) (Nat.two_pow_pos k)) hf)
        clear HS hf
        go_wp2_with fail
        have c1 := ref_at L _ cap LE.out h256 k (q - 1) w1 HE1.out HF1.out (by omega)
        rw [show ((q - 1 : Nat) : Int) = (q : Int) - 1 by omega] at c1
        refine c1.mono ?_
        rintro e w2 ⟨rfl, hb2⟩
        have HO2 := Lib.hid (HO.out.below hb2)
        have HB2 := Lib.hid (HB.out.trans (hb2.mono HB.out.size))
        obtain ⟨x, hx⟩ : ∃ x, atN L k (q - 1) = x := ⟨_, rfl⟩
        rw [hx] at HP hx1 hx2 ⊢
        have HX1 := Lib.hid hx1
        have HX2 := Lib.hid hx2
        clear hb2 HO HB HE1 c1 hx hx1 hx2 HF1
        go_wp2_with (refine wpList_build_elem rfl 36 31 (.tmp 26) rfl x rfl HX1.out Tryd.underlying36 Tryd.infoE16 ?_)
        intro w3 hl3 hb3
        have HL3 := Lib.hid (blk_news hl3.out)
        have HO3 := Lib.hid (HO2.out.below hb3.out)
        have HB3 := Lib.hid (HB2.out.trans (hb3.out.mono HB2.out.size))
        clear hl3 hb3 HO2 HB2
        go_wp2_with (at_builtin; refine wpList_append_elems rfl (.tmp 22) (.tmp 27) 36 31 rfl w.heap.size _ rfl Tryd.underlying36 Tryd.infoE16 _ M [x] (Elems.one HX1.out HX2.out) ⟨w2.heap.size, 0, none⟩ 1 1 rfl rfl HO3.out rfl (by rw [flatE_one]; exact HL3.out) (by rw [HPL.out]; simp; omega) HB3.out.size ?_)
        intro v4 w4 ho4 hb4
        have HB4 := Lib.hid (HB3.out.trans hb4.out)
        clear hb4 HB3
        go_wp2_with fail
        exact ⟨⟨k + 1, by omega, by go_num, by rw [HD.out]; go_num, by rw [HP.out]; exact ho4.out, HB4.out⟩, by simp [intOf]; omega⟩
      · have HS := Shut.mk (show sibN q = q + 1 by unfold sibN; rw [if_neg hpar])
        rw [HS.out] at hf HP
        have hp2 : ¬ ((q : Int) % 2 = 1) := by omega
        have HF1 := Lib.hid (show (q + 1 + 1) * 2 ^ k ≤ L.length from hf)
        obtain ⟨hx1, hx2⟩ := atN_ok LE.out k (q + 1) (Nat.lt_of_lt_of_le (Nat.mul_lt_mul_of_pos_right (Nat.lt_succ_self _) (Nat.two_pow_pos k)) hf)
        clear HS hf
        go_wp2_with fail
        have c1 := ref_at L _ cap LE.out h256 k (q + 1) w1 HE1.out HF1.out (by omega)
        rw [show ((q + 1 : Nat) : Int) = (q : Int) + 1 by omega] at c1
        refine c1.mono ?_
        rintro e w2 ⟨rfl, hb2⟩
        have HO2 := Lib.hid (HO.out.below hb2)
        have HB2 := Lib.hid (HB.out.trans (hb2.mono HB.out.size))
        obtain ⟨x, hx⟩ : ∃ x, atN L k (q + 1) = x := ⟨_, rfl⟩
        rw [hx] at HP hx1 hx2 ⊢
        have HX1 := Lib.hid hx1
        have HX2 := Lib.hid hx2
        clear hb2 HO HB HE1 c1 hx hx1 hx2 HF1
        go_wp2_with (refine wpList_build_elem rfl 36 31 (.tmp 26) rfl x rfl HX1.out Tryd.underlying36 Tryd.infoE16 ?_)
        intro w3 hl3 hb3
        have HL3 := Lib.hid (blk_news hl3.out)
        have HO3 := Lib.hid (HO2.out.below hb3.out)
        have HB3 := Lib.hid (HB2.out.trans (hb3.out.mono HB2.out.size))
        clear hl3 hb3 HO2 HB2
        go_wp2_with (at_builtin; refine wpList_append_elems rfl (.tmp 22) (.tmp 27) 36 31 rfl w.heap.size _ rfl Tryd.underlying36 Tryd.infoE16 _ M [x] (Elems.one HX1.out HX2.out) ⟨w2.heap.size, 0, none⟩ 1 1 rfl rfl HO3.out rfl (by rw [flatE_one]; exact HL3.out) (by rw [HPL.out]; simp; omega) HB3.out.size ?_)
        intro v4 w4 ho4 hb4
        have HB4 := Lib.hid (HB3.out.trans hb4.out)
        clear hb4 HB3
        go_wp2_with fail
        exact ⟨⟨k + 1, by omega, by go_num, by rw [HD.out]; go_num, by rw [HP.out]; exact ho4.out, HB4.out⟩, by simp [intOf]; omega⟩
    · have hlk2 : ¬ (k : Int) < (h : Int) := by omega
      obtain rfl : k = h := by omega
      go_wp2_with fail
      go_ret
      exact ⟨⟨_, rfl, HO0.out⟩, HB.out⟩
end Go.Proofs.YtcjjhddppcmgoaaDoor
