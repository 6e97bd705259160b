/-
  The developers' Digest (first written over a scratch copy: it fits where the landed code is 'return sha.Cut(sha.Sum("text", string(root[:]), pack.Num(index), text))').
-/
import Derived.Test.YtcjjhddppcmgoaaDoorKeysRef
namespace Go.Proofs.YtcjjhddppcmgoaaDoor
open Go.RowKit Go.BigFrame

set_option maxHeartbeats 4000000 in
set_option maxRecDepth 100000 in
theorem dev_digest6 (r : List Nat) (i : Int) (t : List UInt8) (w : World) (hr : r.length = 16) (lr : ∀ y ∈ r, y < 256) (i0 : -9223372036854775808 ≤ i) (hi : i ≤ 9223372036854775807) (ht : t.length ≤ 1000000) (hk : KAt w) :
    Calls Tryd.prog 16 #[.agg (nums .u8 r).toArray, .int .i64 i, .string ⟨t.toArray⟩] w fun e w' => e = .returned (.agg (nums .u8 (digK r i t)).toArray) ∧ Below w.heap.size w w' := by
  have HS := Lib.hid (digK_small hr hi ht)
  have HK := Lib.hid hk
  clear hk
  have HR := Lib.hid hr
  have LR := Lib.hid lr
  clear hr lr
  go_enter Tryd.func16, Tryd.ntmps16
  go_upto_region 1 with (fail)
  change Code.wp _ _ _ _ ((w.alloc (.cells (nums .u8 r).toArray 31)).alloc (.cells (nums .u8 (List.replicate 16 0)).toArray 31))
  obtain ⟨w1, hw1⟩ : ∃ x', x' = (w.alloc (.cells (nums .u8 r).toArray 31)).alloc (.cells (nums .u8 (List.replicate 16 0)).toArray 31) := ⟨_, rfl⟩
  rw [← hw1]
  have h3 : Blk w.heap.size 31 .u8 r w1 ∧ Blk (w.heap.size + 1) 31 .u8 (List.replicate 16 0) w1 ∧ Below w.heap.size w w1 := by rw [hw1]; exact two_new w _ _ _ _
  obtain ⟨hr1, hz1, hb1⟩ := h3
  obtain ⟨gz, hgz⟩ : ∃ g, g = w.heap.size + 1 := ⟨_, rfl⟩
  obtain ⟨gr, hgr⟩ : ∃ g, g = w.heap.size := ⟨_, rfl⟩
  have HGZ := Lib.hid (show w.heap.size ≤ gz by omega)
  rw [← hgz] at hz1 ⊢
  rw [← hgr] at hr1 ⊢
  have HR1 := Lib.hid hr1
  have HZ1 := Lib.hid hz1
  have HB1 := Lib.hid hb1
  clear hr1 hz1 hb1 hw1 hgz hgr
  have HU := Shut.mk (show (shaN (listB [[116, 101, 120, 116], txt r, numB i.toNat, t])).take 16 = digK r i t from rfl)
  have HK1 := Lib.hid (HK.out.below HB1.out)
  refine wp_region_class_tail (fun w' => SS w1 w') 5 (by kernel_rfl) (by kernel_rfl) (SS.start HK1.out) ?_
  simp only [List.take_succ_cons, List.take_zero, List.drop_succ_cons, List.drop_zero]
  repeat (first
    | (go_big_quiet_want; refine quiet_conv_nums 44 9 5 _ rfl gr 16 r 31 (by rw [HR.out]; rfl) LR.out (fun w' h => HR1.out.below h.1) Tryd.underlying44 Tryd.underlying5 Tryd.underlying9 ?_; go_big_quiet_on; simp only [Act.put, List.setIfInBounds_toArray, List.set_cons_zero, List.set_cons_succ])
    | go_big_quiet_step ((intro hs'; first
        | rfl
        | (go_at_call 33; exact (num_int i _ i0 hi).mono fun e w' h => ⟨h.1, hs'.next h.2⟩))))
  refine wpQuiet_nil ?_
  intro w2 hs2
  have HZ2 := Lib.hid (HZ1.out.below hs2.1)
  have HB2 := Lib.hid (HB1.out.trans (hs2.1.mono HB1.out.size))
  have HK2 := Lib.hid hs2.2
  clear hs2 HR1 HZ1 HB1 HK1
  go_wp2_with fail
  refine (dev_sum [116, 101, 120, 116] (some ⟨w2.heap.size, 0, none⟩) 3 [txt r, numB i.toNat, t] _ (at_three w2 _ _ _) (fun h => by cases h) (by simp) HS.out (HK2.out.below ((Below.refl _ _).alloc (Nat.le_refl _) _))).mono ?_
  rintro e w5 ⟨rfl, hb5⟩
  have hb : Below w2.heap.size w2 w5 := ((Below.refl _ w2).alloc (Nat.le_refl _) _).trans (hb5.mono (by simp))
  have HZ5 := Lib.hid (HZ2.out.below hb)
  have HB5 := Lib.hid (HB2.out.trans (hb.mono HB2.out.size))
  clear hb hb5 HZ2 HB2
  go_wp2_with fail
  refine (dev_cut _ w5 (shaN_len _)).mono ?_
  rintro e w6 ⟨rfl, hb6⟩
  have HZ6 := Lib.hid (HZ5.out.below hb6)
  have HB6 := Lib.hid (HB5.out.trans (hb6.mono HB5.out.size))
  clear hb6 HZ5 HB5
  rw [HU.out]
  have HUL0 := digK_len r i t
  clear HU
  obtain ⟨U, hU⟩ : ∃ U, digK r i t = U := ⟨_, rfl⟩
  rw [hU] at HUL0 ⊢
  have HUL := Lib.hid HUL0
  have HUE := Shut.mk hU
  clear hU HUL0
  have HI := Lib.hid (show (Tryd.prog.info? 31).map (·.size) = some U.length by rw [HUL.out]; exact Tryd.infoE)
  have HL2 := Lib.hid (show (List.replicate 16 0).length = U.length by rw [HUL.out]; rfl)
  go_wp2_with (refine wpList_store_nums rfl 31 _ _ rfl rfl gz .u8 _ U 31 rfl rfl HZ6.out HI.out HL2.out ?_)
  intro w7 hc' hb'
  have HC7 := Lib.hid (show Blk gz 31 .u8 U w7 from hc'.out)
  have HB7 := Lib.hid (show Below w.heap.size w w7 from But.toBelow HB6.out hb'.out HGZ.out HB6.out.size)
  clear hc' hb'
  go_wp2_with fail
  exact bodyPost_ret (results_nums rfl _ _ gz .u8 _ 31 _ rfl HC7.out Tryd.underlying31 rfl HI.out) rfl ⟨by rw [HUE.out], HB7.out⟩
theorem dev_size (h : Int) (w : World) (h0 : 0 ≤ h) (h1 : h ≤ 1099511627776) :
    Calls Tryd.prog 18 #[.int .i64 h] w fun e w' => e = .returned (.int .i64 (560 + 16 * h)) ∧ Below w.heap.size w w' := by
  go_enter Tryd.func18, Tryd.ntmps18
  go_wp2_with fail
  go_ret
  exact ⟨rfl, Below.refl _ _⟩
end Go.Proofs.YtcjjhddppcmgoaaDoor
