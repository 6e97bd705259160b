/-
  The parent of two elements, the developers' and the document's.
-/
import Derived.Test.YtgmckanjgnpbhaaDoorTreeM
import Derived.Test.YtgmckanjgnpbhaaDoorSumCut
namespace Go.Proofs.YtgmckanjgnpbhaaDoor
open Go.RowKit Go.BigFrame

set_option maxHeartbeats 4000000 in
set_option maxRecDepth 100000 in
theorem dev_up (l r : List Nat) (lev idx : Int) (w : World) (hl : l.length = 16) (ll : ∀ y ∈ l, y < 256) (hr : r.length = 16) (lr : ∀ y ∈ r, y < 256)
    (v0 : -9223372036854775808 ≤ lev) (v1 : lev ≤ 9223372036854775807) (x0 : -9223372036854775808 ≤ idx) (x1 : idx ≤ 9223372036854775807) (hk : KAt w) :
    Calls Tryd.prog 19 #[.agg (nums .u8 l).toArray, .agg (nums .u8 r).toArray, .int .i64 lev, .int .i64 idx] w fun e w' => e = .returned (.agg (nums .u8 (upN l r lev idx)).toArray) ∧ Below w.heap.size w w' := by
  have HS := Lib.hid (upN_small hl hr v1 x1)
  have hcl : ¬ 9223372036854775807 < (txt l).length + (txt r).length := by rw [txt_len, txt_len]; omega
  have HL := Lib.hid hl
  have LL := Lib.hid ll
  have HR := Lib.hid hr
  have LR := Lib.hid lr
  have HK := Lib.hid hk
  have hcat := cat2 (txt l) (txt r)
  clear hl ll hr lr hk
  go_enter Tryd.func19, Tryd.ntmps19
  go_upto_region 1 with (fail)
  change Code.wp _ _ _ _ (((w.alloc (.cells (nums .u8 l).toArray 27)).alloc (.cells (nums .u8 r).toArray 27)).alloc (.cells (nums .u8 (List.replicate 16 0)).toArray 27))
  obtain ⟨w1, hw1⟩ : ∃ x', x' = ((w.alloc (.cells (nums .u8 l).toArray 27)).alloc (.cells (nums .u8 r).toArray 27)).alloc (.cells (nums .u8 (List.replicate 16 0)).toArray 27) := ⟨_, rfl⟩
  rw [← hw1]
  have h3 : Blk w.heap.size 27 .u8 l w1 ∧ Blk (w.heap.size + 1) 27 .u8 r w1 ∧ Blk (w.heap.size + 2) 27 .u8 (List.replicate 16 0) w1 ∧ Below w.heap.size w w1 := by rw [hw1]; exact three_new w _ _ _ _ _ _
  obtain ⟨hl1, hr1, hz1, hb1⟩ := h3
  have HL1 := Lib.hid hl1
  have HR1 := Lib.hid hr1
  have HZ1 := Lib.hid hz1
  have HB1 := Lib.hid hb1
  have HK1 := Lib.hid (HK.out.below hb1)
  obtain ⟨gz, hgz⟩ : ∃ g, g = w.heap.size + 2 := ⟨_, rfl⟩
  obtain ⟨gr, hgr⟩ : ∃ g, g = w.heap.size + 1 := ⟨_, rfl⟩
  obtain ⟨gl, hgl⟩ : ∃ g, g = w.heap.size := ⟨_, rfl⟩
  have HGZ := Lib.hid (show w.heap.size ≤ gz by omega)
  rw [← hgz] at HZ1 ⊢
  rw [← hgr] at HR1 ⊢
  rw [← hgl] at HL1 ⊢
  clear hl1 hr1 hz1 hb1 hw1 HK hgz hgr hgl
  refine wp_region_class_tail (fun w' => SS w1 w') 5 (by kernel_rfl) (by kernel_rfl) (SS.start HK1.out) ?_
  simp only [List.take_succ_cons, List.take_zero, List.drop_succ_cons, List.drop_zero]
  repeat (first
    | (go_big_quiet_want; refine quiet_conv_nums 47 9 5 _ rfl gl 16 l 27 (by rw [HL.out]; rfl) LL.out (fun w' h => HL1.out.below h.1) Tryd.underlying47 Tryd.underlying5 Tryd.underlying9 ?_; go_big_quiet_on; simp only [Act.put, List.setIfInBounds_toArray, List.set_cons_zero, List.set_cons_succ])
    | (go_big_quiet_want; refine quiet_conv_nums 47 9 5 _ rfl gr 16 r 27 (by rw [HR.out]; rfl) LR.out (fun w' h => HR1.out.below h.1) Tryd.underlying47 Tryd.underlying5 Tryd.underlying9 ?_; go_big_quiet_on; simp only [Act.put, List.setIfInBounds_toArray, List.set_cons_zero, List.set_cons_succ])
    | go_big_quiet_step ((intro hs'; rfl)))
  refine wpQuiet_nil ?_
  intro w2 hs2
  have HZ2 := Lib.hid (HZ1.out.below hs2.1)
  have HB2 := Lib.hid (HB1.out.trans (hs2.1.mono HB1.out.size))
  have HK2 := Lib.hid hs2.2
  clear hs2 HL1 HR1 HZ1 HB1 HK1
  go_wp2_with fail
  refine (num_int lev _ v0 v1).mono ?_
  rintro e w3 ⟨rfl, hb3⟩
  have HZ3 := Lib.hid (HZ2.out.below hb3)
  have HB3 := Lib.hid (HB2.out.trans (hb3.mono HB2.out.size))
  have HK3 := Lib.hid (HK2.out.below hb3)
  clear hb3 HZ2 HB2 HK2
  go_wp2_with fail
  refine (num_int idx _ x0 x1).mono ?_
  rintro e w4 ⟨rfl, hb4⟩
  have HZ4 := Lib.hid (HZ3.out.below hb4)
  have HB4 := Lib.hid (HB3.out.trans (hb4.mono HB3.out.size))
  have HK4 := Lib.hid (HK3.out.below hb4)
  clear hb4 HZ3 HB3 HK3
  go_wp2_with fail
  refine (dev_sum [110] (some ⟨w4.heap.size, 0, none⟩) 3 [txt l ++ txt r, numB lev.toNat, numB idx.toNat] _ (at_three w4 _ _ _) (fun h => by cases h) (by simp) HS.out (HK4.out.below ((Below.refl _ _).alloc (Nat.le_refl _) _))).mono ?_
  rintro e w5 ⟨rfl, hb5⟩
  have hb : Below w4.heap.size w4 w5 := ((Below.refl _ w4).alloc (Nat.le_refl _) _).trans (hb5.mono (by simp))
  have HZ5 := Lib.hid (HZ4.out.below hb)
  have HB5 := Lib.hid (HB4.out.trans (hb.mono HB4.out.size))
  clear hb hb5 HZ4 HB4 HK4
  go_wp2_with fail
  refine (dev_cut _ w5 (shaN_len _)).mono ?_
  rintro e w6 ⟨rfl, hb6⟩
  have HZ6 := Lib.hid (HZ5.out.below hb6)
  have HB6 := Lib.hid (HB5.out.trans (hb6.mono HB5.out.size))
  clear hb6 HZ5 HB5
  rw [show (shaN (listB [[110], txt l ++ txt r, numB lev.toNat, numB idx.toNat])).take 16 = upN l r lev idx from rfl]
  have HUL0 := upN_len l r lev idx
  obtain ⟨U, hU⟩ : ∃ U, upN l r lev idx = U := ⟨_, rfl⟩
  rw [hU] at HUL0 ⊢
  have HUL := Lib.hid HUL0
  have HUE := Shut.mk hU
  clear hU HUL0
  have HI := Lib.hid (show (Tryd.prog.info? 27).map (·.size) = some U.length by rw [HUL.out]; exact Tryd.infoE)
  have HL2 := Lib.hid (show (List.replicate 16 0).length = U.length by rw [HUL.out]; rfl)
  go_wp2_with (refine wpList_store_nums rfl 27 _ _ rfl rfl gz .u8 _ U 27 rfl rfl HZ6.out HI.out HL2.out ?_)
  intro w7 hc' hb'
  have HC7 := Lib.hid (show Blk gz 27 .u8 U w7 from hc'.out)
  have HB7 := Lib.hid (show Below w.heap.size w w7 from But.toBelow HB6.out hb'.out HGZ.out HB6.out.size)
  clear hc' hb'
  go_wp2_with fail
  exact bodyPost_ret (results_nums rfl _ _ gz .u8 _ 27 _ rfl HC7.out Tryd.underlying27 rfl HI.out) rfl ⟨by rw [HUE.out], HB7.out⟩

set_option maxHeartbeats 4000000 in
set_option maxRecDepth 100000 in
theorem ref_up (l r : List Nat) (lev idx : Int) (w : World) (hl : l.length = 16) (ll : ∀ y ∈ l, y < 256) (hr : r.length = 16) (lr : ∀ y ∈ r, y < 256)
    (v0 : -9223372036854775808 ≤ lev) (v1 : lev ≤ 9223372036854775807) (x0 : -9223372036854775808 ≤ idx) (x1 : idx ≤ 9223372036854775807) :
    Calls Tryd.prog 20 #[.agg (nums .u8 l).toArray, .agg (nums .u8 r).toArray, .int .i64 lev, .int .i64 idx] w fun e w' => e = .returned (.agg (nums .u8 (upN l r lev idx)).toArray) ∧ Below w.heap.size w w' := by
  have HS0 := upN_small hl hr v1 x1
  have hcl : ¬ 9223372036854775807 < (txt l).length + (txt r).length := by rw [txt_len, txt_len]; omega
  have HL := Lib.hid hl
  have LL := Lib.hid ll
  have HR := Lib.hid hr
  have LR := Lib.hid lr
  have hcat := cat2 (txt l) (txt r)
  clear hl ll hr lr
  go_enter Tryd.func20, Tryd.ntmps20
  go_upto_region 1 with (fail)
  change Code.wp _ _ _ _ (((w.alloc (.cells (nums .u8 l).toArray 27)).alloc (.cells (nums .u8 r).toArray 27)).alloc (.cells (nums .u8 (List.replicate 16 0)).toArray 27))
  obtain ⟨w1, hw1⟩ : ∃ x', x' = ((w.alloc (.cells (nums .u8 l).toArray 27)).alloc (.cells (nums .u8 r).toArray 27)).alloc (.cells (nums .u8 (List.replicate 16 0)).toArray 27) := ⟨_, rfl⟩
  rw [← hw1]
  have h3 : Blk w.heap.size 27 .u8 l w1 ∧ Blk (w.heap.size + 1) 27 .u8 r w1 ∧ Blk (w.heap.size + 2) 27 .u8 (List.replicate 16 0) w1 ∧ Below w.heap.size w w1 := by rw [hw1]; exact three_new w _ _ _ _ _ _
  obtain ⟨hl1, hr1, hz1, hb1⟩ := h3
  have HL1 := Lib.hid hl1
  have HR1 := Lib.hid hr1
  have HZ1 := Lib.hid hz1
  have HB1 := Lib.hid hb1
  obtain ⟨gz, hgz⟩ : ∃ g, g = w.heap.size + 2 := ⟨_, rfl⟩
  obtain ⟨gr, hgr⟩ : ∃ g, g = w.heap.size + 1 := ⟨_, rfl⟩
  obtain ⟨gl, hgl⟩ : ∃ g, g = w.heap.size := ⟨_, rfl⟩
  have HGZ := Lib.hid (show w.heap.size ≤ gz by omega)
  rw [← hgz] at HZ1 ⊢
  rw [← hgr] at HR1 ⊢
  rw [← hgl] at HL1 ⊢
  clear hl1 hr1 hz1 hb1 hw1 hgz hgr hgl
  obtain ⟨nv, hnv⟩ : ∃ n : Nat, max lev 0 = n := ⟨lev.toNat, by omega⟩
  obtain ⟨nx, hnx⟩ : ∃ n : Nat, max idx 0 = n := ⟨idx.toNat, by omega⟩
  have hvn : lev.toNat = nv := by omega
  have hxn : idx.toNat = nx := by omega
  have hvn2 : nv < 9223372036854775808 := by omega
  have hxn2 : nx < 9223372036854775808 := by omega
  rw [hvn, hxn] at HS0
  have HS := Lib.hid HS0
  have HU := Shut.mk (show (shaN (listB [[110], txt l ++ txt r, numB nv, numB nx])).take 16 = upN l r lev idx by rw [← hvn, ← hxn]; rfl)
  clear hvn hxn HS0
  refine wp_region_class_tail (fun w' => Below w1.heap.size w1 w') 11 (by kernel_rfl) (by kernel_rfl) (Below.refl _ _).drew ?_
  simp only [List.take_succ_cons, List.take_zero, List.drop_succ_cons, List.drop_zero]
  repeat (first
    | (go_big_quiet_want; refine quiet_conv_nums 47 9 5 _ rfl gl 16 l 27 (by rw [HL.out]; rfl) LL.out (fun w' h => HL1.out.below h) Tryd.underlying47 Tryd.underlying5 Tryd.underlying9 ?_; go_big_quiet_on; simp only [Act.put, List.setIfInBounds_toArray, List.set_cons_zero, List.set_cons_succ])
    | (go_big_quiet_want; refine quiet_conv_nums 47 9 5 _ rfl gr 16 r 27 (by rw [HR.out]; rfl) LR.out (fun w' h => HR1.out.below h) Tryd.underlying47 Tryd.underlying5 Tryd.underlying9 ?_; go_big_quiet_on; simp only [Act.put, List.setIfInBounds_toArray, List.set_cons_zero, List.set_cons_succ])
    | go_big_quiet_step ((intro hs'; first
        | rfl
        | (go_at_call_of 29 (Value.int .i64 (nv : Int)); exact (rnumref_any nv _ hvn2).mono fun e w' h => ⟨h.1, hs'.trans (h.2.mono hs'.size)⟩)
        | (go_at_call_of 29 (Value.int .i64 (nx : Int)); exact (rnumref_any nx _ hxn2).mono fun e w' h => ⟨h.1, hs'.trans (h.2.mono hs'.size)⟩))))
  refine wpQuiet_nil ?_
  intro w2 hs2
  have HZ2 := Lib.hid (HZ1.out.below hs2)
  have HB2 := Lib.hid (HB1.out.trans (hs2.mono HB1.out.size))
  clear hs2 HL1 HR1 HZ1 HB1
  go_wp2_with fail
  refine (ref_sum [110] (some ⟨w2.heap.size, 0, none⟩) 3 [txt l ++ txt r, numB nv, numB nx] _ (at_three w2 _ _ _) (fun h => by cases h) (by simp) HS.out).mono ?_
  rintro e w5 ⟨rfl, hb5⟩
  have hb : Below w2.heap.size w2 w5 := ((Below.refl _ w2).alloc (Nat.le_refl _) _).trans (hb5.mono (by simp))
  have HZ5 := Lib.hid (HZ2.out.below hb)
  have HB5 := Lib.hid (HB2.out.trans (hb.mono HB2.out.size))
  clear hb hb5 HZ2 HB2
  go_wp2_with fail
  refine (ref_cut _ w5 (shaN_len _)).mono ?_
  rintro e w6 ⟨rfl, hb6⟩
  have HZ6 := Lib.hid (HZ5.out.below hb6)
  have HB6 := Lib.hid (HB5.out.trans (hb6.mono HB5.out.size))
  clear hb6 HZ5 HB5
  rw [HU.out]
  have HUL0 := upN_len l r lev idx
  clear HU
  obtain ⟨U, hU⟩ : ∃ U, upN l r lev idx = U := ⟨_, rfl⟩
  rw [hU] at HUL0 ⊢
  have HUL := Lib.hid HUL0
  have HUE := Shut.mk hU
  clear hU HUL0
  have HI := Lib.hid (show (Tryd.prog.info? 27).map (·.size) = some U.length by rw [HUL.out]; exact Tryd.infoE)
  have HL2 := Lib.hid (show (List.replicate 16 0).length = U.length by rw [HUL.out]; rfl)
  go_wp2_with (refine wpList_store_nums rfl 27 _ _ rfl rfl gz .u8 _ U 27 rfl rfl HZ6.out HI.out HL2.out ?_)
  intro w7 hc' hb'
  have HC7 := Lib.hid (show Blk gz 27 .u8 U w7 from hc'.out)
  have HB7 := Lib.hid (show Below w.heap.size w w7 from But.toBelow HB6.out hb'.out HGZ.out HB6.out.size)
  clear hc' hb'
  go_wp2_with fail
  exact bodyPost_ret (results_nums rfl _ _ gz .u8 _ 27 _ rfl HC7.out Tryd.underlying27 rfl HI.out) rfl ⟨by rw [HUE.out], HB7.out⟩
end Go.Proofs.YtgmckanjgnpbhaaDoor
