/-
  The parent of two elements, the developers' and the document's; how many bits are set; a half, a height.
-/
import Derived.Test.YtcjjhddppcmgoaaDoorTreeM
import Derived.Test.YtcjjhddppcmgoaaDoorSumCut
namespace Go.Proofs.YtcjjhddppcmgoaaDoor
open Go.RowKit Go.BigFrame

set_option maxHeartbeats 4000000 in
set_option maxRecDepth 100000 in
theorem dev_up (l r : List Nat) (lev idx : Int) (w : World) (hl : l.length = 16) (ll : ∀ y ∈ l, y < 256) (hr : r.length = 16) (lr : ∀ y ∈ r, y < 256)
    (v0 : -9223372036854775808 ≤ lev) (v1 : lev ≤ 9223372036854775807) (x0 : -9223372036854775808 ≤ idx) (x1 : idx ≤ 9223372036854775807) (hk : KAt w) :
    Calls Tryd.prog 61 #[.agg (nums .u8 l).toArray, .agg (nums .u8 r).toArray, .int .i64 lev, .int .i64 idx] w fun e w' => e = .returned (.agg (nums .u8 (upN l r lev idx)).toArray) ∧ Below w.heap.size w w' := by
  have HS := Lib.hid (upN_small hl hr v1 x1)
  have hcl : ¬ 9223372036854775807 < (txt l).length + (txt r).length := by rw [txt_len, txt_len]; omega
  have HL := Lib.hid hl
  have LL := Lib.hid ll
  have HR := Lib.hid hr
  have LR := Lib.hid lr
  have HK := Lib.hid hk
  have hcat := cat2 (txt l) (txt r)
  clear hl ll hr lr hk
  go_enter Tryd.func61, Tryd.ntmps61
  go_upto_region 1 with (fail)
  change Code.wp _ _ _ _ (((w.alloc (.cells (nums .u8 l).toArray 31)).alloc (.cells (nums .u8 r).toArray 31)).alloc (.cells (nums .u8 (List.replicate 16 0)).toArray 31))
  obtain ⟨w1, hw1⟩ : ∃ x', x' = ((w.alloc (.cells (nums .u8 l).toArray 31)).alloc (.cells (nums .u8 r).toArray 31)).alloc (.cells (nums .u8 (List.replicate 16 0)).toArray 31) := ⟨_, rfl⟩
  rw [← hw1]
  have h3 : Blk w.heap.size 31 .u8 l w1 ∧ Blk (w.heap.size + 1) 31 .u8 r w1 ∧ Blk (w.heap.size + 2) 31 .u8 (List.replicate 16 0) w1 ∧ Below w.heap.size w w1 := by rw [hw1]; exact three_new w _ _ _ _ _ _
  obtain ⟨hl1, hr1, hz1, hb1⟩ := h3
  have HL1 := Lib.hid hl1
  have HR1 := Lib.hid hr1
  have HZ1 := Lib.hid hz1
  have HB1 := Lib.hid hb1
  have HK1 := Lib.hid (HK.out.below hb1)
  obtain ⟨gz, hgz⟩ : ∃ g, g = w.heap.size + 2 := ⟨_, rfl⟩
  obtain ⟨gr, hgr⟩ : ∃ g, g = w.heap.size + 1 := ⟨_, rfl⟩
  obtain ⟨gl, hgl⟩ : ∃ g, g = w.heap.size := ⟨_, rfl⟩
  have HGZ := Lib.hid (show w.heap.size ≤ gz by omega)
  rw [← hgz] at HZ1 ⊢
  rw [← hgr] at HR1 ⊢
  rw [← hgl] at HL1 ⊢
  clear hl1 hr1 hz1 hb1 hw1 HK hgz hgr hgl
  refine wp_region_class_tail (fun w' => SS w1 w') 5 (by kernel_rfl) (by kernel_rfl) (SS.start HK1.out) ?_
  simp only [List.take_succ_cons, List.take_zero, List.drop_succ_cons, List.drop_zero]
  repeat (first
    | (go_big_quiet_want; refine quiet_conv_nums 44 9 5 _ rfl gl 16 l 31 (by rw [HL.out]; rfl) LL.out (fun w' h => HL1.out.below h.1) Tryd.underlying44 Tryd.underlying5 Tryd.underlying9 ?_; go_big_quiet_on; simp only [Act.put, List.setIfInBounds_toArray, List.set_cons_zero, List.set_cons_succ])
    | (go_big_quiet_want; refine quiet_conv_nums 44 9 5 _ rfl gr 16 r 31 (by rw [HR.out]; rfl) LR.out (fun w' h => HR1.out.below h.1) Tryd.underlying44 Tryd.underlying5 Tryd.underlying9 ?_; go_big_quiet_on; simp only [Act.put, List.setIfInBounds_toArray, List.set_cons_zero, List.set_cons_succ])
    | go_big_quiet_step ((intro hs'; rfl)))
  refine wpQuiet_nil ?_
  intro w2 hs2
  have HZ2 := Lib.hid (HZ1.out.below hs2.1)
  have HB2 := Lib.hid (HB1.out.trans (hs2.1.mono HB1.out.size))
  have HK2 := Lib.hid hs2.2
  clear hs2 HL1 HR1 HZ1 HB1 HK1
  go_wp2_with fail
  refine (num_int lev _ v0 v1).mono ?_
  rintro e w3 ⟨rfl, hb3⟩
  have HZ3 := Lib.hid (HZ2.out.below hb3)
  have HB3 := Lib.hid (HB2.out.trans (hb3.mono HB2.out.size))
  have HK3 := Lib.hid (HK2.out.below hb3)
  clear hb3 HZ2 HB2 HK2
  go_wp2_with fail
  refine (num_int idx _ x0 x1).mono ?_
  rintro e w4 ⟨rfl, hb4⟩
  have HZ4 := Lib.hid (HZ3.out.below hb4)
  have HB4 := Lib.hid (HB3.out.trans (hb4.mono HB3.out.size))
  have HK4 := Lib.hid (HK3.out.below hb4)
  clear hb4 HZ3 HB3 HK3
  go_wp2_with fail
  refine (dev_sum [110] (some ⟨w4.heap.size, 0, none⟩) 3 [txt l ++ txt r, numB lev.toNat, numB idx.toNat] _ (at_three w4 _ _ _) (fun h => by cases h) (by simp) HS.out (HK4.out.below ((Below.refl _ _).alloc (Nat.le_refl _) _))).mono ?_
  rintro e w5 ⟨rfl, hb5⟩
  have hb : Below w4.heap.size w4 w5 := ((Below.refl _ w4).alloc (Nat.le_refl _) _).trans (hb5.mono (by simp))
  have HZ5 := Lib.hid (HZ4.out.below hb)
  have HB5 := Lib.hid (HB4.out.trans (hb.mono HB4.out.size))
  clear hb hb5 HZ4 HB4 HK4
  go_wp2_with fail
  refine (dev_cut _ w5 (shaN_len _)).mono ?_
  rintro e w6 ⟨rfl, hb6⟩
  have HZ6 := Lib.hid (HZ5.out.below hb6)
  have HB6 := Lib.hid (HB5.out.trans (hb6.mono HB5.out.size))
  clear hb6 HZ5 HB5
  rw [show (shaN (listB [[110], txt l ++ txt r, numB lev.toNat, numB idx.toNat])).take 16 = upN l r lev idx from rfl]
  have HUL0 := upN_len l r lev idx
  obtain ⟨U, hU⟩ : ∃ U, upN l r lev idx = U := ⟨_, rfl⟩
  rw [hU] at HUL0 ⊢
  have HUL := Lib.hid HUL0
  have HUE := Shut.mk hU
  clear hU HUL0
  have HI := Lib.hid (show (Tryd.prog.info? 31).map (·.size) = some U.length by rw [HUL.out]; exact Tryd.infoE)
  have HL2 := Lib.hid (show (List.replicate 16 0).length = U.length by rw [HUL.out]; rfl)
  go_wp2_with (refine wpList_store_nums rfl 31 _ _ rfl rfl gz .u8 _ U 31 rfl rfl HZ6.out HI.out HL2.out ?_)
  intro w7 hc' hb'
  have HC7 := Lib.hid (show Blk gz 31 .u8 U w7 from hc'.out)
  have HB7 := Lib.hid (show Below w.heap.size w w7 from But.toBelow HB6.out hb'.out HGZ.out HB6.out.size)
  clear hc' hb'
  go_wp2_with fail
  exact bodyPost_ret (results_nums rfl _ _ gz .u8 _ 31 _ rfl HC7.out Tryd.underlying31 rfl HI.out) rfl ⟨by rw [HUE.out], HB7.out⟩

set_option maxHeartbeats 4000000 in
set_option maxRecDepth 100000 in
theorem ref_up (l r : List Nat) (lev idx : Int) (w : World) (hl : l.length = 16) (ll : ∀ y ∈ l, y < 256) (hr : r.length = 16) (lr : ∀ y ∈ r, y < 256)
    (v0 : -9223372036854775808 ≤ lev) (v1 : lev ≤ 9223372036854775807) (x0 : -9223372036854775808 ≤ idx) (x1 : idx ≤ 9223372036854775807) :
    Calls Tryd.prog 53 #[.agg (nums .u8 l).toArray, .agg (nums .u8 r).toArray, .int .i64 lev, .int .i64 idx] w fun e w' => e = .returned (.agg (nums .u8 (upN l r lev idx)).toArray) ∧ Below w.heap.size w w' := by
  have HS0 := upN_small hl hr v1 x1
  have hcl : ¬ 9223372036854775807 < (txt l).length + (txt r).length := by rw [txt_len, txt_len]; omega
  have HL := Lib.hid hl
  have LL := Lib.hid ll
  have HR := Lib.hid hr
  have LR := Lib.hid lr
  have hcat := cat2 (txt l) (txt r)
  clear hl ll hr lr
  go_enter Tryd.func53, Tryd.ntmps53
  go_upto_region 1 with (fail)
  change Code.wp _ _ _ _ (((w.alloc (.cells (nums .u8 l).toArray 31)).alloc (.cells (nums .u8 r).toArray 31)).alloc (.cells (nums .u8 (List.replicate 16 0)).toArray 31))
  obtain ⟨w1, hw1⟩ : ∃ x', x' = ((w.alloc (.cells (nums .u8 l).toArray 31)).alloc (.cells (nums .u8 r).toArray 31)).alloc (.cells (nums .u8 (List.replicate 16 0)).toArray 31) := ⟨_, rfl⟩
  rw [← hw1]
  have h3 : Blk w.heap.size 31 .u8 l w1 ∧ Blk (w.heap.size + 1) 31 .u8 r w1 ∧ Blk (w.heap.size + 2) 31 .u8 (List.replicate 16 0) w1 ∧ Below w.heap.size w w1 := by rw [hw1]; exact three_new w _ _ _ _ _ _
  obtain ⟨hl1, hr1, hz1, hb1⟩ := h3
  have HL1 := Lib.hid hl1
  have HR1 := Lib.hid hr1
  have HZ1 := Lib.hid hz1
  have HB1 := Lib.hid hb1
  obtain ⟨gz, hgz⟩ : ∃ g, g = w.heap.size + 2 := ⟨_, rfl⟩
  obtain ⟨gr, hgr⟩ : ∃ g, g = w.heap.size + 1 := ⟨_, rfl⟩
  obtain ⟨gl, hgl⟩ : ∃ g, g = w.heap.size := ⟨_, rfl⟩
  have HGZ := Lib.hid (show w.heap.size ≤ gz by omega)
  rw [← hgz] at HZ1 ⊢
  rw [← hgr] at HR1 ⊢
  rw [← hgl] at HL1 ⊢
  clear hl1 hr1 hz1 hb1 hw1 hgz hgr hgl
  obtain ⟨nv, hnv⟩ : ∃ n : Nat, max lev 0 = n := ⟨lev.toNat, by omega⟩
  obtain ⟨nx, hnx⟩ : ∃ n : Nat, max idx 0 = n := ⟨idx.toNat, by omega⟩
  have hvn : lev.toNat = nv := by omega
  have hxn : idx.toNat = nx := by omega
  have hvn2 : nv < 9223372036854775808 := by omega
  have hxn2 : nx < 9223372036854775808 := by omega
  rw [hvn, hxn] at HS0
  have HS := Lib.hid HS0
  have HU := Shut.mk (show (shaN (listB [[110], txt l ++ txt r, numB nv, numB nx])).take 16 = upN l r lev idx by rw [← hvn, ← hxn]; rfl)
  clear hvn hxn HS0
  refine wp_region_class_tail (fun w' => Below w1.heap.size w1 w') 11 (by kernel_rfl) (by kernel_rfl) (Below.refl _ _).drew ?_
  simp only [List.take_succ_cons, List.take_zero, List.drop_succ_cons, List.drop_zero]
  repeat (first
    | (go_big_quiet_want; refine quiet_conv_nums 44 9 5 _ rfl gl 16 l 31 (by rw [HL.out]; rfl) LL.out (fun w' h => HL1.out.below h) Tryd.underlying44 Tryd.underlying5 Tryd.underlying9 ?_; go_big_quiet_on; simp only [Act.put, List.setIfInBounds_toArray, List.set_cons_zero, List.set_cons_succ])
    | (go_big_quiet_want; refine quiet_conv_nums 44 9 5 _ rfl gr 16 r 31 (by rw [HR.out]; rfl) LR.out (fun w' h => HR1.out.below h) Tryd.underlying44 Tryd.underlying5 Tryd.underlying9 ?_; go_big_quiet_on; simp only [Act.put, List.setIfInBounds_toArray, List.set_cons_zero, List.set_cons_succ])
    | go_big_quiet_step ((intro hs'; first
        | rfl
        | (go_at_call_of 36 (Value.int .i64 (nv : Int)); exact (rnumref_any nv _ hvn2).mono fun e w' h => ⟨h.1, hs'.trans (h.2.mono hs'.size)⟩)
        | (go_at_call_of 36 (Value.int .i64 (nx : Int)); exact (rnumref_any nx _ hxn2).mono fun e w' h => ⟨h.1, hs'.trans (h.2.mono hs'.size)⟩))))
  refine wpQuiet_nil ?_
  intro w2 hs2
  have HZ2 := Lib.hid (HZ1.out.below hs2)
  have HB2 := Lib.hid (HB1.out.trans (hs2.mono HB1.out.size))
  clear hs2 HL1 HR1 HZ1 HB1
  go_wp2_with fail
  refine (ref_sum [110] (some ⟨w2.heap.size, 0, none⟩) 3 [txt l ++ txt r, numB nv, numB nx] _ (at_three w2 _ _ _) (fun h => by cases h) (by simp) HS.out).mono ?_
  rintro e w5 ⟨rfl, hb5⟩
  have hb : Below w2.heap.size w2 w5 := ((Below.refl _ w2).alloc (Nat.le_refl _) _).trans (hb5.mono (by simp))
  have HZ5 := Lib.hid (HZ2.out.below hb)
  have HB5 := Lib.hid (HB2.out.trans (hb.mono HB2.out.size))
  clear hb hb5 HZ2 HB2
  go_wp2_with fail
  refine (ref_cut _ w5 (shaN_len _)).mono ?_
  rintro e w6 ⟨rfl, hb6⟩
  have HZ6 := Lib.hid (HZ5.out.below hb6)
  have HB6 := Lib.hid (HB5.out.trans (hb6.mono HB5.out.size))
  clear hb6 HZ5 HB5
  rw [HU.out]
  have HUL0 := upN_len l r lev idx
  clear HU
  obtain ⟨U, hU⟩ : ∃ U, upN l r lev idx = U := ⟨_, rfl⟩
  rw [hU] at HUL0 ⊢
  have HUL := Lib.hid HUL0
  have HUE := Shut.mk hU
  clear hU HUL0
  have HI := Lib.hid (show (Tryd.prog.info? 31).map (·.size) = some U.length by rw [HUL.out]; exact Tryd.infoE)
  have HL2 := Lib.hid (show (List.replicate 16 0).length = U.length by rw [HUL.out]; rfl)
  go_wp2_with (refine wpList_store_nums rfl 31 _ _ rfl rfl gz .u8 _ U 31 rfl rfl HZ6.out HI.out HL2.out ?_)
  intro w7 hc' hb'
  have HC7 := Lib.hid (show Blk gz 31 .u8 U w7 from hc'.out)
  have HB7 := Lib.hid (show Below w.heap.size w w7 from But.toBelow HB6.out hb'.out HGZ.out HB6.out.size)
  clear hc' hb'
  go_wp2_with fail
  exact bodyPost_ret (results_nums rfl _ _ gz .u8 _ 31 _ rfl HC7.out Tryd.underlying31 rfl HI.out) rfl ⟨by rw [HUE.out], HB7.out⟩

def ones1 (x : Int) : Int := IntKind.u64.wrap (bits .and .u64 (x / 2) 6148914691236517205 + bits .and .u64 x 6148914691236517205)
def ones2 (x : Int) : Int := IntKind.u64.wrap (bits .and .u64 (x / 4) 3689348814741910323 + bits .and .u64 x 3689348814741910323)
def ones3 (x : Int) : Int := bits .and .u64 (IntKind.u64.wrap (x / 16 + x)) 1085102592571150095
def onesA (d : Int) (x : Int) : Int := IntKind.u64.wrap (x + x / d)
def onesN (n : Nat) : Int := bits .and .i64 (wrap64 (onesA 4294967296 (onesA 65536 (onesA 256 (ones3 (ones2 (ones1 n))))))) 127
set_option maxHeartbeats 1000000 in
set_option maxRecDepth 100000 in
theorem ones_64 (n : Nat) (w : World) :
    Calls Tryd.prog 82 #[.int .u64 n] w fun e w' => e = .returned (.int .i64 (onesN n)) ∧ w' = w := by
  go_enter Tryd.func82, Tryd.ntmps82
  go_upto_region 2 with (fail)
  obtain ⟨x1, h1⟩ : ∃ x, x = ones1 n := ⟨_, rfl⟩
  rw [show IntKind.u64.wrap (bits .and .u64 ((n : Int) / 2) 6148914691236517205 + bits .and .u64 (n : Int) 6148914691236517205) = x1 from h1.symm]
  have H1 := Shut.mk h1
  clear h1
  go_upto_region 3 with (fail)
  obtain ⟨x2, h2⟩ : ∃ x, x = ones2 x1 := ⟨_, rfl⟩
  rw [show IntKind.u64.wrap (bits .and .u64 (x1 / 4) 3689348814741910323 + bits .and .u64 x1 3689348814741910323) = x2 from h2.symm]
  have H2 := Shut.mk h2
  clear h2
  go_upto_region 4 with (fail)
  obtain ⟨x3, h3⟩ : ∃ x, x = ones3 x2 := ⟨_, rfl⟩
  rw [show bits .and .u64 (IntKind.u64.wrap (x2 / 16 + x2)) 1085102592571150095 = x3 from h3.symm]
  have H3 := Shut.mk h3
  clear h3
  go_upto_region 5 with (fail)
  obtain ⟨x4, h4⟩ : ∃ x, x = onesA 256 x3 := ⟨_, rfl⟩
  rw [show IntKind.u64.wrap (x3 + x3 / 256) = x4 from h4.symm]
  have H4 := Shut.mk h4
  clear h4
  go_upto_region 6 with (fail)
  obtain ⟨x5, h5⟩ : ∃ x, x = onesA 65536 x4 := ⟨_, rfl⟩
  rw [show IntKind.u64.wrap (x4 + x4 / 65536) = x5 from h5.symm]
  have H5 := Shut.mk h5
  clear h5
  go_upto_region 7 with (fail)
  obtain ⟨x6, h6⟩ : ∃ x, x = onesA 4294967296 x5 := ⟨_, rfl⟩
  rw [show IntKind.u64.wrap (x5 + x5 / 4294967296) = x6 from h6.symm]
  have H6 := Shut.mk h6
  clear h6
  go_wp2_with fail
  go_ret
  exact ⟨by rw [H6.out, H5.out, H4.out, H3.out, H2.out, H1.out]; rfl, rfl⟩
theorem ones_good {n : Nat} (hn : n ≤ 256) : (onesN n == 1) = goodN n := by
  have key : ∀ n : Fin 257, (onesN n.val == 1) = goodN n.val := by decide +kernel
  exact key ⟨n, by omega⟩
theorem dev_ones (n : Nat) (w : World) :
    Calls Tryd.prog 65 #[.int .u64 n] w fun e w' => e = .returned (.int .i64 (onesN n)) ∧ w' = w := by
  go_enter Tryd.func65, Tryd.ntmps65
  go_wp2_with fail
  refine (ones_64 n w).mono ?_
  rintro e w1 ⟨rfl, rfl⟩
  obtain ⟨q, hq⟩ : ∃ q, onesN n = q := ⟨_, rfl⟩
  rw [hq]
  have HQ := Shut.mk hq
  clear hq
  go_wp2_with fail
  go_ret
  exact ⟨by rw [HQ.out]; rfl, rfl⟩
theorem dev_permitted (n : Nat) (w : World) (hn : n ≤ 9000000000000) :
    Calls Tryd.prog 46 #[.int .i64 n] w fun e w' => e = .returned (.bool (goodN n)) ∧ w' = w := by
  go_enter Tryd.func46, Tryd.ntmps46
  by_cases h : n ≤ 256
  · have h2 : (n : Int) ≤ 256 := by omega
    have hg := Shut.mk (ones_good h)
    go_wp2_with fail
    refine (dev_ones n w).mono ?_
    rintro e w1 ⟨rfl, rfl⟩
    generalize onesN n = q at *
    go_wp2_with fail
    go_ret
    exact ⟨by rw [← hg.out]; rfl, rfl⟩
  · have h2 : ¬ (n : Int) ≤ 256 := by omega
    have hg : goodN n = false := by
      cases hc : goodN n with
      | false => rfl
      | true => exact absurd (goodN_le hc) h
    go_wp2_with fail
    go_ret
    exact ⟨rfl, rfl⟩
theorem tdiv_two {a : Int} (h : a < 0) : a.tdiv 2 = -((-a) / 2) ∧ a.tmod 2 = -((-a) % 2) := by
  obtain ⟨b, rfl⟩ : ∃ b, a = -b := ⟨-a, by omega⟩
  rw [Int.neg_tdiv, Int.neg_tmod, Int.neg_neg, Int.tdiv_eq_ediv_of_nonneg (by omega), Int.tmod_eq_emod_of_nonneg (by omega)]
  exact ⟨rfl, rfl⟩
/-- Half, rounded down. -/
theorem half_any (a : Int) (w : World) (h0 : -9223372036854775808 ≤ a) (h1 : a ≤ 9223372036854775807) :
    Calls Tryd.prog 62 #[.int .i64 a] w fun e w' => e = .returned (.int .i64 (a / 2)) ∧ w' = w := by
  go_enter Tryd.func62, Tryd.ntmps62
  by_cases hn : a < 0
  · obtain ⟨h2, h3⟩ := tdiv_two hn
    by_cases hm : (-a) % 2 = 0
    · have h4 : (a.tmod 2 != 0) = false := by rw [h3, hm]; rfl
      have h5 : a.tdiv 2 = a / 2 := by rw [h2]; omega
      clear h2 h3
      go_wp2_with fail
      go_ret
      exact ⟨rfl, rfl⟩
    · have h4 : (a.tmod 2 != 0) = true := by
        rw [h3, bne_iff_ne]
        omega
      have h5 : wrap64 (a.tdiv 2 - 1) = a / 2 := by
        rw [h2]
        unfold wrap64
        omega
      have H5 := Lib.hid h5
      clear h2 h3 h5
      go_wp2_with fail
      go_ret
      exact ⟨by rw [← H5.out]; rfl, rfl⟩
  · go_wp2_with fail
    go_ret
    exact ⟨rfl, rfl⟩
theorem height_any (n : Nat) (w : World) (hn : n ≤ 9000000000000) :
    Calls Tryd.prog 30 #[.int .i64 n] w fun e w' => e = .returned (.int .i64 (heightN n : Nat)) ∧ w' = w := by
  go_enter Tryd.func30, Tryd.ntmps30
  go_wp2_with fail
  go_loop [0, 3] (fun m h => ∃ q k : Nat, m = .int .i64 q ∧ h = .int .i64 k ∧ q ≤ n ∧ heightN n = k + heightN q ∧ k + q ≤ n) (fun m _ => (intOf m).toNat)
  case atStart => exact ⟨n, 0, rfl, rfl, Nat.le_refl _, by omega, by omega⟩
  case round =>
    obtain ⟨q, k, rfl, rfl, hq, hh, hk⟩ := hrel
    have HH := Shut.mk hh
    clear hh
    by_cases h1 : 1 < q
    · have h2 : (1 : Int) < q := by omega
      go_wp2_with fail
      exact ⟨⟨q / 2, k + 1, by simp, by simp, by omega, by rw [HH.out, heightN_next h1]; omega, by omega⟩, by simp [intOf]; omega⟩
    · have h2 : ¬ (1 : Int) < q := by omega
      have h0 : heightN q = 0 := by
        rcases (by omega : q = 0 ∨ q = 1) with rfl | rfl
        · simp [heightN]
        · exact heightN_one
      have H0 := Shut.mk h0
      clear h0
      go_wp2_with fail
      go_ret
      exact ⟨by rw [HH.out, H0.out]; rfl, rfl⟩
end Go.Proofs.YtcjjhddppcmgoaaDoor
