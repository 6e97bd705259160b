/-
  Joined: The document's Leaf, Sign.; Up, permitted, half.; The document's Height.; The document's At, Path.; The document's Leaves, Root, Sign.; Elements cut from a text: 'copy(list[i][:], s[i*16:])'.
-/
import Derived.Laws.IdiomCopy
import Derived.Test.YtpfhlhcnmeodbaaGreatDoorJ05
import Derived.Test.YtpfhlhcnmeodbaaGreatDoorJ06
import Derived.Test.YtpfhlhcnmeodbaaGreatDoorJ08
import Derived.Test.YtpfhlhcnmeodbaaGreatDoorJ09
namespace Go.Proofs.YtpfhlhcnmeodbaaGreatDoor
open Go.RowKit Go.BigFrame
set_option maxHeartbeats 1000000 in
set_option maxRecDepth 100000 in
theorem ref_leaf (seed : List UInt8) (i : Int) (w : World) (hs : seed.length ≤ 4000) (hi0 : -9223372036854775808 ≤ i) (hi : i ≤ 9223372036854775807) :
    Calls Tryz.prog 41 #[.string ⟨seed.toArray⟩, .int .i64 i] w fun e w' => e = .returned (.agg (nums .u8 (leafN seed i)).toArray) ∧ Below w.heap.size w w' := by
  have HS := Lib.hid hs
  have HI0 := Lib.hid hi0
  have HI1 := Lib.hid hi
  clear hs hi0 hi
  go_enter Tryz.func41, Tryz.ntmps41
  go_upto_region 1 with (fail)
  change Code.wp _ _ _ _ (w.alloc (.cells (nums .u8 (List.replicate 16 0)).toArray 29))
  obtain ⟨w1, hw1⟩ : ∃ x', x' = w.alloc (.cells (nums .u8 (List.replicate 16 0)).toArray 29) := ⟨_, rfl⟩
  rw [← hw1]
  have HB1 := Lib.hid (show Below w.heap.size w w1 by rw [hw1]; exact (Below.refl _ _).alloc (Nat.le_refl _) _)
  have HR1 := Lib.hid (show Blk w.heap.size 29 .u8 (List.replicate 16 0) w1 by rw [hw1]; exact heap_alloc_new w _)
  clear hw1
  go_wp2_with fail
  go_loopw [5, 6] (fun s n wq => ∃ k : Nat, k ≤ 35 ∧ n = .int .i64 k ∧ s = .string ⟨(rowE (endF seed i) k).toArray⟩ ∧ Below w1.heap.size w1 wq) (fun _ n _ => 35 - (intOf n).toNat)
  case atStart => exact ⟨0, by omega, rfl, rfl, Below.refl _ _⟩
  case round =>
    obtain ⟨k, hk, rfl, rfl, hb⟩ := hrel
    have HB := Lib.hid hb
    have HW := Lib.hid hb.size
    clear hb
    by_cases hlk : k < 35
    · go_wp2_with fail
      refine (ref_secret seed i k wr HS.out HI0.out HI1.out (by omega) (by omega)).mono ?_
      rintro e w2 ⟨rfl, hb2⟩
      have HB2 := Lib.hid (HB.out.trans (hb2.mono HB.out.size))
      clear hb2 HB
      go_wp2_with fail
      refine (ref_walk (secN seed i k) i k 0 15 w2 (secN_len _ _ _) (secN_lt _ _ _) HI0.out HI1.out (by omega) (by omega) (by omega) (by omega) (by omega) (by omega)).mono ?_
      rintro e w3 ⟨rfl, hb3⟩
      rw [show walkI (secN seed i k) (placeB i k) 0 15 = endF seed i k from rfl]
      have HB3 := Lib.hid (HB2.out.trans (hb3.mono HB2.out.size))
      have HW3 := Lib.hid (HB3.out.size)
      have HFL := Lib.hid (endF_len seed i k)
      have HFT := Lib.hid (endF_lt seed i k)
      have HRN := Lib.hid (show rowE (endF seed i) (k + 1) = rowE (endF seed i) k ++ txt (endF seed i k) from rfl)
      have hcl : ¬ 9223372036854775807 < (rowE (endF seed i) k).length + (txt (endF seed i k)).length := by rw [rowE_len (endF_len seed i), txt_len, endF_len]; omega
      generalize endF seed i k = x at *
      generalize rowE (endF seed i) k = R at *
      clear hb3 HB2
      have HX3 := Lib.hid (show Blk w3.heap.size 29 .u8 (List.replicate 16 0) (w3.alloc (.cells (nums .u8 (List.replicate 16 0)).toArray 29)) from heap_alloc_new w3 _)
      have HI := Lib.hid (show (Tryz.prog.info? 29).map (·.size) = some x.length by rw [HFL.out]; exact Tryz.infoE)
      have HL2 := Lib.hid (show (List.replicate 16 0).length = x.length by rw [HFL.out]; rfl)
      go_wp2_with (refine wpList_store_nums rfl 29 _ _ rfl rfl w3.heap.size .u8 _ x 29 rfl rfl HX3.out HI.out HL2.out ?_)
      intro w5 hc' hb'
      have HX5 := Lib.hid (show Blk w3.heap.size 29 .u8 x w5 from hc'.out)
      have HB5 := Lib.hid (show Below w1.heap.size w1 w5 from But.toBelow (HB3.out.alloc HW3.out _) hb'.out HW3.out (by have := HW3.out; simp; omega))
      clear hc' hb' HX3 HB3 HI HL2
      have hconv := conv_blk (P := Tryz.prog) w5 97 9 5 w3.heap.size 16 16 x 29 HFL.out.symm HFT.out HX5.out Tryz.underlying97 Tryz.underlying5 Tryz.underlying9
      have hcat := cat2 R (txt x)
      go_wp2_with fail
      exact ⟨⟨k + 1, by omega, by go_num, by rw [HRN.out], HB5.out⟩, by simp [intOf]; omega⟩
    · obtain rfl : k = 35 := by omega
      have HRr := Lib.hid (HR1.out.below HB.out)
      have HBr := Lib.hid (HB1.out.trans (HB.out.mono HB1.out.size))
      have HEL := Lib.hid (show (rowE (endF seed i) 35).length ≤ 4000 by rw [rowE_len (endF_len seed i)]; decide)
      have HLF := Lib.hid (show keyN (rowE (endF seed i) 35) i = leafN seed i from rfl)
      generalize rowE (endF seed i) 35 = E at *
      clear HB HB1 HR1
      go_wp2_with fail
      refine (ref_of4 E i _ HEL.out HI0.out HI1.out).mono ?_
      rintro e w4 ⟨rfl, hb4⟩
      rw [HLF.out]
      have HR4 := Lib.hid (HRr.out.below hb4)
      have HB4 := Lib.hid (HBr.out.trans (hb4.mono HBr.out.size))
      have HNL := Lib.hid (show (leafN seed i).length = 16 from keyN_len _ _)
      clear hb4 HRr HBr HEL HLF
      obtain ⟨N, hN⟩ : ∃ N, leafN seed i = N := ⟨_, rfl⟩
      rw [hN] at HNL ⊢
      have HN := Lib.hid hN
      clear hN
      have HI := Lib.hid (show (Tryz.prog.info? 29).map (·.size) = some N.length by rw [HNL.out]; exact Tryz.infoE)
      have HL2 := Lib.hid (show (List.replicate 16 0).length = N.length by rw [HNL.out]; rfl)
      go_wp2_with (refine wpList_store_nums rfl 29 _ _ rfl rfl w.heap.size .u8 _ N 29 rfl rfl HR4.out HI.out HL2.out ?_)
      intro w7 hc' hb'
      have HC7 := Lib.hid (show Blk w.heap.size 29 .u8 N w7 from hc'.out)
      have HB7 := Lib.hid (show Below w.heap.size w w7 from But.toBelow HB4.out hb'.out (by omega) HB4.out.size)
      clear hc' hb'
      go_wp2_with fail
      exact bodyPost_ret (results_nums rfl _ _ w.heap.size .u8 _ 29 _ rfl HC7.out Tryz.underlying29 rfl HI.out) rfl ⟨by rw [HN.out], HB7.out⟩
set_option maxHeartbeats 1000000 in
set_option maxRecDepth 100000 in
theorem ref_sign (seed : List UInt8) (i : Int) (d : List Nat) (w : World) (hs : seed.length ≤ 4000) (hi0 : -9223372036854775808 ≤ i) (hi : i ≤ 9223372036854775807) (hd : d.length = 16) (ld : ∀ y ∈ d, y < 256) :
    Calls Tryz.prog 74 #[.string ⟨seed.toArray⟩, .int .i64 i, .agg (nums .u8 d).toArray] w fun e w' => e = .returned (.string ⟨(signN seed i d).toArray⟩) ∧ Below w.heap.size w w' := by
  have HS := Lib.hid hs
  have HD := Lib.hid hd
  have LD := Lib.hid ld
  have HI0 := Lib.hid hi0
  have HI1 := Lib.hid hi
  clear hs hi0 hi hd ld
  go_enter Tryz.func74, Tryz.ntmps74
  go_upto_region 1 with (fail)
  obtain ⟨w1, hw1⟩ : ∃ x', x' = w.alloc (.cells (nums .u8 d).toArray 29) := ⟨_, rfl⟩
  rw [← hw1]
  have HB1 := Lib.hid (show Below w.heap.size w w1 by rw [hw1]; exact (Below.refl _ _).alloc (Nat.le_refl _) _)
  have HD1 := Lib.hid (show Blk w.heap.size 29 .u8 d w1 by rw [hw1]; exact heap_alloc_new w _)
  have HI := Lib.hid (show (Tryz.prog.info? 29).map (·.size) = some d.length by rw [HD.out]; exact Tryz.infoE)
  clear hw1
  go_wp2_with (refine wpList_load_nums rfl 29 _ rfl w.heap.size .u8 _ 29 _ rfl HD1.out Tryz.underlying29 rfl HI.out ?_)
  refine (ref_digits d _ HD.out LD.out).mono ?_
  rintro e w2 ⟨ao, cp, rfl, ho, hb2⟩
  obtain ⟨g, c2, hv, hg1, hg2⟩ := ho.formB (by rw [digN_len HD.out]; decide)
  obtain rfl : ao = some ⟨g, 0, none⟩ := by injection hv
  have HO2 := Lib.hid ho
  have HB2 := Lib.hid (HB1.out.trans (hb2.mono HB1.out.size))
  have HDL := Lib.hid (digN_len HD.out)
  have LDL := Lib.hid (digN_lt HD.out LD.out)
  have HSF := Lib.hid (show ∀ j, sgnF seed i d j = walkI (secN seed i j) (placeB i j) 0 ((digN d).getD j 0 : Nat) from fun j => rfl)
  have HSN := Lib.hid (show signN seed i d = rowE (sgnF seed i d) 35 from rfl)
  have HSL := Lib.hid (sgnF_len seed i d)
  have HST := Lib.hid (sgnF_lt seed i d)
  obtain ⟨D, hDn⟩ : ∃ D, digN d = D := ⟨_, rfl⟩
  rw [hDn] at HO2 HDL LDL HSF
  clear hb2 HB1 HD1 ho hv hg1 hg2 HI hDn
  go_wp2_with fail
  go_loopw [7, 14] (fun s n wq => ∃ k : Nat, k ≤ 35 ∧ n = .int .i64 k ∧ s = .string ⟨(rowE (sgnF seed i d) k).toArray⟩ ∧ Below w2.heap.size w2 wq) (fun _ n _ => 35 - (intOf n).toNat)
  case atStart => exact ⟨0, by omega, rfl, rfl, Below.refl _ _⟩
  case round =>
    obtain ⟨k, hk, rfl, rfl, hb⟩ := hrel
    have HB := Lib.hid hb
    have HO := Lib.hid (HO2.out.below hb)
    have HW := Lib.hid hb.size
    clear hb
    by_cases hlk : k < 35
    · have c1 := HO.out.cellN HDL.out.symm k hlk
      have hy := getD_lt LDL.out (by decide) k
      have HF := Lib.hid (HSF.out k)
      generalize D.getD k 0 = y at c1 hy HF
      go_upto_if 15 with (fail)
      rw [show decide ((k : Int) < 35) = true from decide_eq_true (by omega)]
      go_wp2_with fail
      refine (ref_secret seed i k wr HS.out HI0.out HI1.out (by omega) (by omega)).mono ?_
      rintro e w2' ⟨rfl, hb2⟩
      have HB2' := Lib.hid (HB.out.trans (hb2.mono HB.out.size))
      clear hb2 HB HO c1
      go_wp2_with fail
      refine (ref_walk (secN seed i k) i k 0 y w2' (secN_len _ _ _) (secN_lt _ _ _) HI0.out HI1.out (by omega) (by omega) (by omega) (by omega) (by omega) (by omega)).mono ?_
      rintro e w3 ⟨rfl, hb3⟩
      rw [← HF.out]
      have HB3 := Lib.hid (HB2'.out.trans (hb3.mono HB2'.out.size))
      have HW3 := Lib.hid (HB3.out.size)
      have HFL := Lib.hid (HSL.out k)
      have HFT := Lib.hid (HST.out k)
      have HRN := Lib.hid (show rowE (sgnF seed i d) (k + 1) = rowE (sgnF seed i d) k ++ txt (sgnF seed i d k) from rfl)
      have hcl : ¬ 9223372036854775807 < (rowE (sgnF seed i d) k).length + (txt (sgnF seed i d k)).length := by rw [rowE_len (sgnF_len seed i d), txt_len, sgnF_len]; omega
      clear HF
      generalize sgnF seed i d k = x at *
      generalize rowE (sgnF seed i d) k = R at *
      clear hb3 HB2'
      have HX3 := Lib.hid (show Blk w3.heap.size 29 .u8 (List.replicate 16 0) (w3.alloc (.cells (nums .u8 (List.replicate 16 0)).toArray 29)) from heap_alloc_new w3 _)
      have HI := Lib.hid (show (Tryz.prog.info? 29).map (·.size) = some x.length by rw [HFL.out]; exact Tryz.infoE)
      have HL2 := Lib.hid (show (List.replicate 16 0).length = x.length by rw [HFL.out]; rfl)
      go_wp2_with (refine wpList_store_nums rfl 29 _ _ rfl rfl w3.heap.size .u8 _ x 29 rfl rfl HX3.out HI.out HL2.out ?_)
      intro w5 hc' hb'
      have HX5 := Lib.hid (show Blk w3.heap.size 29 .u8 x w5 from hc'.out)
      have HB5 := Lib.hid (show Below w2.heap.size w2 w5 from But.toBelow (HB3.out.alloc HW3.out _) hb'.out HW3.out (by have := HW3.out; simp; omega))
      clear hc' hb' HX3 HB3 HI HL2
      have hconv := conv_blk (P := Tryz.prog) w5 97 9 5 w3.heap.size 16 16 x 29 HFL.out.symm HFT.out HX5.out Tryz.underlying97 Tryz.underlying5 Tryz.underlying9
      have hcat := cat2 R (txt x)
      go_wp2_with fail
      exact ⟨⟨k + 1, by omega, by go_num, by rw [HRN.out], HB5.out⟩, by simp [intOf]; omega⟩
    · obtain rfl : k = 35 := by omega
      have HBr := Lib.hid (HB2.out.trans (HB.out.mono HB2.out.size))
      go_upto_if 15 with (fail)
      go_wp2_with fail
      go_ret
      exact ⟨by rw [HSN.out]; rfl, HBr.out⟩
end Go.Proofs.YtpfhlhcnmeodbaaGreatDoor
namespace Go.Proofs.YtpfhlhcnmeodbaaGreatDoor
open Go.RowKit Go.BigFrame
set_option maxHeartbeats 4000000 in
set_option maxRecDepth 100000 in
theorem dev_up (l r : List Nat) (lev idx : Int) (w : World) (hl : l.length = 16) (ll : ∀ y ∈ l, y < 256) (hr : r.length = 16) (lr : ∀ y ∈ r, y < 256)
    (v0 : -9223372036854775808 ≤ lev) (v1 : lev ≤ 9223372036854775807) (x0 : -9223372036854775808 ≤ idx) (x1 : idx ≤ 9223372036854775807) (hk : KAt w) :
    Calls Tryz.prog 86 #[.agg (nums .u8 l).toArray, .agg (nums .u8 r).toArray, .int .i64 lev, .int .i64 idx] w fun e w' => e = .returned (.agg (nums .u8 (upN l r lev idx)).toArray) ∧ Below w.heap.size w w' := by
  have HS := Lib.hid (upN_small hl hr v1 x1)
  have hcl : ¬ 9223372036854775807 < (txt l).length + (txt r).length := by rw [txt_len, txt_len]; omega
  have HL := Lib.hid hl
  have LL := Lib.hid ll
  have HR := Lib.hid hr
  have LR := Lib.hid lr
  have HK := Lib.hid hk
  have hcat := cat2 (txt l) (txt r)
  clear hl ll hr lr hk
  go_enter Tryz.func86, Tryz.ntmps86
  go_upto_region 1 with (fail)
  change Code.wp _ _ _ _ (((w.alloc (.cells (nums .u8 l).toArray 29)).alloc (.cells (nums .u8 r).toArray 29)).alloc (.cells (nums .u8 (List.replicate 16 0)).toArray 29))
  obtain ⟨w1, hw1⟩ : ∃ x', x' = ((w.alloc (.cells (nums .u8 l).toArray 29)).alloc (.cells (nums .u8 r).toArray 29)).alloc (.cells (nums .u8 (List.replicate 16 0)).toArray 29) := ⟨_, rfl⟩
  rw [← hw1]
  have h3 : Blk w.heap.size 29 .u8 l w1 ∧ Blk (w.heap.size + 1) 29 .u8 r w1 ∧ Blk (w.heap.size + 2) 29 .u8 (List.replicate 16 0) w1 ∧ Below w.heap.size w w1 := by rw [hw1]; exact three_new w _ _ _ _ _ _
  obtain ⟨hl1, hr1, hz1, hb1⟩ := h3
  have HL1 := Lib.hid hl1
  have HR1 := Lib.hid hr1
  have HZ1 := Lib.hid hz1
  have HB1 := Lib.hid hb1
  have HK1 := Lib.hid (HK.out.below hb1)
  obtain ⟨gz, hgz⟩ : ∃ g, g = w.heap.size + 2 := ⟨_, rfl⟩
  obtain ⟨gr, hgr⟩ : ∃ g, g = w.heap.size + 1 := ⟨_, rfl⟩
  obtain ⟨gl, hgl⟩ : ∃ g, g = w.heap.size := ⟨_, rfl⟩
  have HGZ := Lib.hid (show w.heap.size ≤ gz by omega)
  rw [← hgz] at HZ1 ⊢
  rw [← hgr] at HR1 ⊢
  rw [← hgl] at HL1 ⊢
  clear hl1 hr1 hz1 hb1 hw1 HK hgz hgr hgl
  refine wp_region_class_tail (fun w' => SS w1 w') 5 (by kernel_rfl) (by kernel_rfl) (SS.start HK1.out) ?_
  simp only [List.take_succ_cons, List.take_zero, List.drop_succ_cons, List.drop_zero]
  repeat (first
    | (go_big_quiet_want; refine quiet_conv_nums 97 9 5 _ rfl gl 16 l 29 (by rw [HL.out]; rfl) LL.out (fun w' h => HL1.out.below h.1) Tryz.underlying97 Tryz.underlying5 Tryz.underlying9 ?_; go_big_quiet_on; simp only [Act.put, List.setIfInBounds_toArray, List.set_cons_zero, List.set_cons_succ])
    | (go_big_quiet_want; refine quiet_conv_nums 97 9 5 _ rfl gr 16 r 29 (by rw [HR.out]; rfl) LR.out (fun w' h => HR1.out.below h.1) Tryz.underlying97 Tryz.underlying5 Tryz.underlying9 ?_; go_big_quiet_on; simp only [Act.put, List.setIfInBounds_toArray, List.set_cons_zero, List.set_cons_succ])
    | go_big_quiet_step ((intro hs'; rfl)))
  refine wpQuiet_nil ?_
  intro w2 hs2
  have HZ2 := Lib.hid (HZ1.out.below hs2.1)
  have HB2 := Lib.hid (HB1.out.trans (hs2.1.mono HB1.out.size))
  have HK2 := Lib.hid hs2.2
  clear hs2 HL1 HR1 HZ1 HB1 HK1
  go_wp2_with fail
  refine (num_int lev _ v0 v1).mono ?_
  rintro e w3 ⟨rfl, hb3⟩
  have HZ3 := Lib.hid (HZ2.out.below hb3)
  have HB3 := Lib.hid (HB2.out.trans (hb3.mono HB2.out.size))
  have HK3 := Lib.hid (HK2.out.below hb3)
  clear hb3 HZ2 HB2 HK2
  go_wp2_with fail
  refine (num_int idx _ x0 x1).mono ?_
  rintro e w4 ⟨rfl, hb4⟩
  have HZ4 := Lib.hid (HZ3.out.below hb4)
  have HB4 := Lib.hid (HB3.out.trans (hb4.mono HB3.out.size))
  have HK4 := Lib.hid (HK3.out.below hb4)
  clear hb4 HZ3 HB3 HK3
  go_wp2_with fail
  refine (dev_sum [110] (some ⟨w4.heap.size, 0, none⟩) 3 [txt l ++ txt r, numB lev.toNat, numB idx.toNat] _ (at_three w4 _ _ _) (fun h => by cases h) (by simp) HS.out (HK4.out.below ((Below.refl _ _).alloc (Nat.le_refl _) _))).mono ?_
  rintro e w5 ⟨rfl, hb5⟩
  have hb : Below w4.heap.size w4 w5 := ((Below.refl _ w4).alloc (Nat.le_refl _) _).trans (hb5.mono (by simp))
  have HZ5 := Lib.hid (HZ4.out.below hb)
  have HB5 := Lib.hid (HB4.out.trans (hb.mono HB4.out.size))
  clear hb hb5 HZ4 HB4 HK4
  go_wp2_with fail
  refine (dev_cut _ w5 (shaN_len _)).mono ?_
  rintro e w6 ⟨rfl, hb6⟩
  have HZ6 := Lib.hid (HZ5.out.below hb6)
  have HB6 := Lib.hid (HB5.out.trans (hb6.mono HB5.out.size))
  clear hb6 HZ5 HB5
  rw [show (shaN (listB [[110], txt l ++ txt r, numB lev.toNat, numB idx.toNat])).take 16 = upN l r lev idx from rfl]
  have HUL0 := upN_len l r lev idx
  obtain ⟨U, hU⟩ : ∃ U, upN l r lev idx = U := ⟨_, rfl⟩
  rw [hU] at HUL0 ⊢
  have HUL := Lib.hid HUL0
  have HUE := Shut.mk hU
  clear hU HUL0
  have HI := Lib.hid (show (Tryz.prog.info? 29).map (·.size) = some U.length by rw [HUL.out]; exact Tryz.infoE)
  have HL2 := Lib.hid (show (List.replicate 16 0).length = U.length by rw [HUL.out]; rfl)
  go_wp2_with (refine wpList_store_nums rfl 29 _ _ rfl rfl gz .u8 _ U 29 rfl rfl HZ6.out HI.out HL2.out ?_)
  intro w7 hc' hb'
  have HC7 := Lib.hid (show Blk gz 29 .u8 U w7 from hc'.out)
  have HB7 := Lib.hid (show Below w.heap.size w w7 from But.toBelow HB6.out hb'.out HGZ.out HB6.out.size)
  clear hc' hb'
  go_wp2_with fail
  exact bodyPost_ret (results_nums rfl _ _ gz .u8 _ 29 _ rfl HC7.out Tryz.underlying29 rfl HI.out) rfl ⟨by rw [HUE.out], HB7.out⟩
set_option maxHeartbeats 4000000 in
set_option maxRecDepth 100000 in
theorem ref_up (l r : List Nat) (lev idx : Int) (w : World) (hl : l.length = 16) (ll : ∀ y ∈ l, y < 256) (hr : r.length = 16) (lr : ∀ y ∈ r, y < 256)
    (v0 : -9223372036854775808 ≤ lev) (v1 : lev ≤ 9223372036854775807) (x0 : -9223372036854775808 ≤ idx) (x1 : idx ≤ 9223372036854775807) :
    Calls Tryz.prog 42 #[.agg (nums .u8 l).toArray, .agg (nums .u8 r).toArray, .int .i64 lev, .int .i64 idx] w fun e w' => e = .returned (.agg (nums .u8 (upN l r lev idx)).toArray) ∧ Below w.heap.size w w' := by
  have HS0 := upN_small hl hr v1 x1
  have hcl : ¬ 9223372036854775807 < (txt l).length + (txt r).length := by rw [txt_len, txt_len]; omega
  have HL := Lib.hid hl
  have LL := Lib.hid ll
  have HR := Lib.hid hr
  have LR := Lib.hid lr
  have hcat := cat2 (txt l) (txt r)
  clear hl ll hr lr
  go_enter Tryz.func42, Tryz.ntmps42
  go_upto_region 1 with (fail)
  change Code.wp _ _ _ _ (((w.alloc (.cells (nums .u8 l).toArray 29)).alloc (.cells (nums .u8 r).toArray 29)).alloc (.cells (nums .u8 (List.replicate 16 0)).toArray 29))
  obtain ⟨w1, hw1⟩ : ∃ x', x' = ((w.alloc (.cells (nums .u8 l).toArray 29)).alloc (.cells (nums .u8 r).toArray 29)).alloc (.cells (nums .u8 (List.replicate 16 0)).toArray 29) := ⟨_, rfl⟩
  rw [← hw1]
  have h3 : Blk w.heap.size 29 .u8 l w1 ∧ Blk (w.heap.size + 1) 29 .u8 r w1 ∧ Blk (w.heap.size + 2) 29 .u8 (List.replicate 16 0) w1 ∧ Below w.heap.size w w1 := by rw [hw1]; exact three_new w _ _ _ _ _ _
  obtain ⟨hl1, hr1, hz1, hb1⟩ := h3
  have HL1 := Lib.hid hl1
  have HR1 := Lib.hid hr1
  have HZ1 := Lib.hid hz1
  have HB1 := Lib.hid hb1
  obtain ⟨gz, hgz⟩ : ∃ g, g = w.heap.size + 2 := ⟨_, rfl⟩
  obtain ⟨gr, hgr⟩ : ∃ g, g = w.heap.size + 1 := ⟨_, rfl⟩
  obtain ⟨gl, hgl⟩ : ∃ g, g = w.heap.size := ⟨_, rfl⟩
  have HGZ := Lib.hid (show w.heap.size ≤ gz by omega)
  rw [← hgz] at HZ1 ⊢
  rw [← hgr] at HR1 ⊢
  rw [← hgl] at HL1 ⊢
  clear hl1 hr1 hz1 hb1 hw1 hgz hgr hgl
  obtain ⟨nv, hnv⟩ : ∃ n : Nat, max lev 0 = n := ⟨lev.toNat, by omega⟩
  obtain ⟨nx, hnx⟩ : ∃ n : Nat, max idx 0 = n := ⟨idx.toNat, by omega⟩
  have hvn : lev.toNat = nv := by omega
  have hxn : idx.toNat = nx := by omega
  have hvn2 : nv < 9223372036854775808 := by omega
  have hxn2 : nx < 9223372036854775808 := by omega
  rw [hvn, hxn] at HS0
  have HS := Lib.hid HS0
  have HU := Shut.mk (show (shaN (listB [[110], txt l ++ txt r, numB nv, numB nx])).take 16 = upN l r lev idx by rw [← hvn, ← hxn]; rfl)
  clear hvn hxn HS0
  refine wp_region_class_tail (fun w' => Below w1.heap.size w1 w') 11 (by kernel_rfl) (by kernel_rfl) (Below.refl _ _).drew ?_
  simp only [List.take_succ_cons, List.take_zero, List.drop_succ_cons, List.drop_zero]
  repeat (first
    | (go_big_quiet_want; refine quiet_conv_nums 97 9 5 _ rfl gl 16 l 29 (by rw [HL.out]; rfl) LL.out (fun w' h => HL1.out.below h) Tryz.underlying97 Tryz.underlying5 Tryz.underlying9 ?_; go_big_quiet_on; simp only [Act.put, List.setIfInBounds_toArray, List.set_cons_zero, List.set_cons_succ])
    | (go_big_quiet_want; refine quiet_conv_nums 97 9 5 _ rfl gr 16 r 29 (by rw [HR.out]; rfl) LR.out (fun w' h => HR1.out.below h) Tryz.underlying97 Tryz.underlying5 Tryz.underlying9 ?_; go_big_quiet_on; simp only [Act.put, List.setIfInBounds_toArray, List.set_cons_zero, List.set_cons_succ])
    | go_big_quiet_step ((intro hs'; first
        | rfl
        | (go_at_call_of 71 (Value.int .i64 (nv : Int)); exact (rnumref_any nv _ hvn2).mono fun e w' h => ⟨h.1, hs'.trans (h.2.mono hs'.size)⟩)
        | (go_at_call_of 71 (Value.int .i64 (nx : Int)); exact (rnumref_any nx _ hxn2).mono fun e w' h => ⟨h.1, hs'.trans (h.2.mono hs'.size)⟩))))
  refine wpQuiet_nil ?_
  intro w2 hs2
  have HZ2 := Lib.hid (HZ1.out.below hs2)
  have HB2 := Lib.hid (HB1.out.trans (hs2.mono HB1.out.size))
  clear hs2 HL1 HR1 HZ1 HB1
  go_wp2_with fail
  refine (ref_sum [110] (some ⟨w2.heap.size, 0, none⟩) 3 [txt l ++ txt r, numB nv, numB nx] _ (at_three w2 _ _ _) (fun h => by cases h) (by simp) HS.out).mono ?_
  rintro e w5 ⟨rfl, hb5⟩
  have hb : Below w2.heap.size w2 w5 := ((Below.refl _ w2).alloc (Nat.le_refl _) _).trans (hb5.mono (by simp))
  have HZ5 := Lib.hid (HZ2.out.below hb)
  have HB5 := Lib.hid (HB2.out.trans (hb.mono HB2.out.size))
  clear hb hb5 HZ2 HB2
  go_wp2_with fail
  refine (ref_cut _ w5 (shaN_len _)).mono ?_
  rintro e w6 ⟨rfl, hb6⟩
  have HZ6 := Lib.hid (HZ5.out.below hb6)
  have HB6 := Lib.hid (HB5.out.trans (hb6.mono HB5.out.size))
  clear hb6 HZ5 HB5
  rw [HU.out]
  have HUL0 := upN_len l r lev idx
  clear HU
  obtain ⟨U, hU⟩ : ∃ U, upN l r lev idx = U := ⟨_, rfl⟩
  rw [hU] at HUL0 ⊢
  have HUL := Lib.hid HUL0
  have HUE := Shut.mk hU
  clear hU HUL0
  have HI := Lib.hid (show (Tryz.prog.info? 29).map (·.size) = some U.length by rw [HUL.out]; exact Tryz.infoE)
  have HL2 := Lib.hid (show (List.replicate 16 0).length = U.length by rw [HUL.out]; rfl)
  go_wp2_with (refine wpList_store_nums rfl 29 _ _ rfl rfl gz .u8 _ U 29 rfl rfl HZ6.out HI.out HL2.out ?_)
  intro w7 hc' hb'
  have HC7 := Lib.hid (show Blk gz 29 .u8 U w7 from hc'.out)
  have HB7 := Lib.hid (show Below w.heap.size w w7 from But.toBelow HB6.out hb'.out HGZ.out HB6.out.size)
  clear hc' hb'
  go_wp2_with fail
  exact bodyPost_ret (results_nums rfl _ _ gz .u8 _ 29 _ rfl HC7.out Tryz.underlying29 rfl HI.out) rfl ⟨by rw [HUE.out], HB7.out⟩
def ones1 (x : Int) : Int := IntKind.u64.wrap (bits .and .u64 (x / 2) 6148914691236517205 + bits .and .u64 x 6148914691236517205)
def ones2 (x : Int) : Int := IntKind.u64.wrap (bits .and .u64 (x / 4) 3689348814741910323 + bits .and .u64 x 3689348814741910323)
def ones3 (x : Int) : Int := bits .and .u64 (IntKind.u64.wrap (x / 16 + x)) 1085102592571150095
def onesA (d : Int) (x : Int) : Int := IntKind.u64.wrap (x + x / d)
def onesN (n : Nat) : Int := bits .and .i64 (wrap64 (onesA 4294967296 (onesA 65536 (onesA 256 (ones3 (ones2 (ones1 n))))))) 127
set_option maxHeartbeats 1000000 in
set_option maxRecDepth 100000 in
theorem ones_64 (n : Nat) (w : World) :
    Calls Tryz.prog 107 #[.int .u64 n] w fun e w' => e = .returned (.int .i64 (onesN n)) ∧ w' = w := by
  go_enter Tryz.func107, Tryz.ntmps107
  go_upto_region 2 with (fail)
  obtain ⟨x1, h1⟩ : ∃ x, x = ones1 n := ⟨_, rfl⟩
  rw [show IntKind.u64.wrap (bits .and .u64 ((n : Int) / 2) 6148914691236517205 + bits .and .u64 (n : Int) 6148914691236517205) = x1 from h1.symm]
  have H1 := Shut.mk h1
  clear h1
  go_upto_region 3 with (fail)
  obtain ⟨x2, h2⟩ : ∃ x, x = ones2 x1 := ⟨_, rfl⟩
  rw [show IntKind.u64.wrap (bits .and .u64 (x1 / 4) 3689348814741910323 + bits .and .u64 x1 3689348814741910323) = x2 from h2.symm]
  have H2 := Shut.mk h2
  clear h2
  go_upto_region 4 with (fail)
  obtain ⟨x3, h3⟩ : ∃ x, x = ones3 x2 := ⟨_, rfl⟩
  rw [show bits .and .u64 (IntKind.u64.wrap (x2 / 16 + x2)) 1085102592571150095 = x3 from h3.symm]
  have H3 := Shut.mk h3
  clear h3
  go_upto_region 5 with (fail)
  obtain ⟨x4, h4⟩ : ∃ x, x = onesA 256 x3 := ⟨_, rfl⟩
  rw [show IntKind.u64.wrap (x3 + x3 / 256) = x4 from h4.symm]
  have H4 := Shut.mk h4
  clear h4
  go_upto_region 6 with (fail)
  obtain ⟨x5, h5⟩ : ∃ x, x = onesA 65536 x4 := ⟨_, rfl⟩
  rw [show IntKind.u64.wrap (x4 + x4 / 65536) = x5 from h5.symm]
  have H5 := Shut.mk h5
  clear h5
  go_upto_region 7 with (fail)
  obtain ⟨x6, h6⟩ : ∃ x, x = onesA 4294967296 x5 := ⟨_, rfl⟩
  rw [show IntKind.u64.wrap (x5 + x5 / 4294967296) = x6 from h6.symm]
  have H6 := Shut.mk h6
  clear h6
  go_wp2_with fail
  go_ret
  exact ⟨by rw [H6.out, H5.out, H4.out, H3.out, H2.out, H1.out]; rfl, rfl⟩
theorem ones_good {n : Nat} (hn : n ≤ 256) : (onesN n == 1) = goodN n := by
  have key : ∀ n : Fin 257, (onesN n.val == 1) = goodN n.val := by decide +kernel
  exact key ⟨n, by omega⟩
theorem dev_ones (n : Nat) (w : World) :
    Calls Tryz.prog 91 #[.int .u64 n] w fun e w' => e = .returned (.int .i64 (onesN n)) ∧ w' = w := by
  go_enter Tryz.func91, Tryz.ntmps91
  go_wp2_with fail
  refine (ones_64 n w).mono ?_
  rintro e w1 ⟨rfl, rfl⟩
  obtain ⟨q, hq⟩ : ∃ q, onesN n = q := ⟨_, rfl⟩
  rw [hq]
  have HQ := Shut.mk hq
  clear hq
  go_wp2_with fail
  go_ret
  exact ⟨by rw [HQ.out]; rfl, rfl⟩
theorem dev_permitted (n : Nat) (w : World) (hn : n ≤ 9000000000000) :
    Calls Tryz.prog 63 #[.int .i64 n] w fun e w' => e = .returned (.bool (goodN n)) ∧ w' = w := by
  go_enter Tryz.func63, Tryz.ntmps63
  by_cases h : n ≤ 256
  · have h2 : (n : Int) ≤ 256 := by omega
    have hg := Shut.mk (ones_good h)
    go_wp2_with fail
    refine (dev_ones n w).mono ?_
    rintro e w1 ⟨rfl, rfl⟩
    generalize onesN n = q at *
    go_wp2_with fail
    go_ret
    exact ⟨by rw [← hg.out]; rfl, rfl⟩
  · have h2 : ¬ (n : Int) ≤ 256 := by omega
    have hg : goodN n = false := by
      cases hc : goodN n with
      | false => rfl
      | true => exact absurd (goodN_le hc) h
    go_wp2_with fail
    go_ret
    exact ⟨rfl, rfl⟩
theorem half_bounds {a : Int} (h0 : -9223372036854775808 ≤ a) (h1 : a ≤ 9223372036854775807) (k : Nat) : -9223372036854775808 ≤ a / 2 ^ k ∧ a / 2 ^ k ≤ 9223372036854775807 := by
  induction k with
  | zero => simp; omega
  | succ k ih =>
    rw [← half_next]
    omega
theorem climbN_next (x : List Nat) (a : Int) (p : List (List Nat)) (j : Nat) : climbN x a p (j + 1) = stepN (climbN x a p j) (p.getD j []) (a / 2 ^ j) j := rfl
theorem bit_one (c : Int) : bits .and .i64 c 1 = c % 2 := by
  have h := and_one_i64 c
  show IntKind.i64.wrap ((BitVec.ofInt 64 c &&& BitVec.ofInt 64 1).toNat : Int) = c % 2
  rw [h]
  rcases (by omega : c % 2 = 0 ∨ c % 2 = 1) with h | h <;> rw [h] <;> rfl
end Go.Proofs.YtpfhlhcnmeodbaaGreatDoor
namespace Go.Proofs.YtpfhlhcnmeodbaaGreatDoor
open Go.RowKit Go.BigFrame
theorem height_any (n : Nat) (w : World) (hn : n ≤ 9000000000000) :
    Calls Tryz.prog 22 #[.int .i64 n] w fun e w' => e = .returned (.int .i64 (heightN n : Nat)) ∧ w' = w := by
  go_enter Tryz.func22, Tryz.ntmps22
  go_wp2_with fail
  go_loop [0, 3] (fun m h => ∃ q k : Nat, m = .int .i64 q ∧ h = .int .i64 k ∧ q ≤ n ∧ heightN n = k + heightN q ∧ k + q ≤ n) (fun m _ => (intOf m).toNat)
  case atStart => exact ⟨n, 0, rfl, rfl, Nat.le_refl _, by omega, by omega⟩
  case round =>
    obtain ⟨q, k, rfl, rfl, hq, hh, hk⟩ := hrel
    have HH := Shut.mk hh
    clear hh
    by_cases h1 : 1 < q
    · have h2 : (1 : Int) < q := by omega
      go_wp2_with fail
      exact ⟨⟨q / 2, k + 1, by simp, by simp, by omega, by rw [HH.out, heightN_next h1]; omega, by omega⟩, by simp [intOf]; omega⟩
    · have h2 : ¬ (1 : Int) < q := by omega
      have h0 : heightN q = 0 := by
        rcases (by omega : q = 0 ∨ q = 1) with rfl | rfl
        · simp [heightN]
        · exact heightN_one
      have H0 := Shut.mk h0
      clear h0
      go_wp2_with fail
      go_ret
      exact ⟨by rw [HH.out, H0.out]; rfl, rfl⟩
end Go.Proofs.YtpfhlhcnmeodbaaGreatDoor
namespace Go.Proofs.YtpfhlhcnmeodbaaGreatDoor
open Go.RowKit Go.BigFrame
set_option maxHeartbeats 1000000 in
set_option maxRecDepth 100000 in
theorem ref_at (L : List (List Nat)) (ao : Option Addr) (cap : Nat) (hL : Elems L) (hn : L.length ≤ 256) : ∀ (k i : Nat) (w : World), EAt ao L w → (i + 1) * 2 ^ k ≤ L.length → k ≤ 8 →
    Calls Tryz.prog 21 #[.slice ao L.length cap, .int .i64 k, .int .i64 i] w fun e w' => e = .returned (.agg (nums .u8 (atN L k i)).toArray) ∧ Below w.heap.size w w' := by
  intro k
  induction k with
  | zero =>
    intro i w hE hi _
    have hi2 : i < L.length := by simp only [Nat.pow_zero, Nat.mul_one] at hi; omega
    obtain ⟨b, o, rfl, hb⟩ := hE.some (by omega)
    have HC := Lib.hid (hE.get hi2)
    obtain ⟨hx1, hx2⟩ := hL.getD hi2
    have HX := Lib.hid hx1
    have HEQ := Shut.mk (show atN L 0 i = L.getD i [] from rfl)
    obtain ⟨x, hx⟩ : ∃ x, L.getD i [] = x := ⟨_, rfl⟩
    rw [hx] at HC HEQ HX
    clear hx1 hx2 hx hi
    go_enter Tryz.func21, Tryz.ntmps21
    go_upto_region 1 with (fail)
    change Code.wp _ _ _ _ (w.alloc (.cells (nums .u8 (List.replicate 16 0)).toArray 29))
    obtain ⟨w1, hw1⟩ : ∃ x', x' = w.alloc (.cells (nums .u8 (List.replicate 16 0)).toArray 29) := ⟨_, rfl⟩
    rw [← hw1]
    have hb1 : Below w.heap.size w w1 := by rw [hw1]; exact (Below.refl _ _).alloc (Nat.le_refl _) _
    have HR1 := Lib.hid (show Blk w.heap.size 29 .u8 (List.replicate 16 0) w1 by rw [hw1]; exact heap_alloc_new w _)
    have HB1 := Lib.hid hb1
    clear hw1 hb1
    have HC1 := Lib.hid (rangeAt_below HC.out HB1.out hb)
    have HI := Lib.hid (show (Tryz.prog.info? 29).map (·.size) = some x.length by rw [HX.out]; exact Tryz.infoE)
    have HL2 := Lib.hid (show (List.replicate 16 0).length = x.length by rw [HX.out]; rfl)
    obtain ⟨g, hg⟩ : ∃ g, g = w.heap.size := ⟨_, rfl⟩
    rw [← hg] at HR1 ⊢
    have HG := Lib.hid (show w.heap.size ≤ g by omega)
    clear hg HC
    go_wp2_with (first
      | (refine wpList_load_elem rfl 29 _ rfl b (o + i * 16) x _ rfl HC1.out Tryz.underlying29 rfl HI.out ?_)
      | (refine wpList_store_nums rfl 29 _ _ rfl rfl g .u8 _ x 29 rfl rfl HR1.out HI.out HL2.out ?_))
    intro w7 hc' hb'
    have HC7 := Lib.hid (show Blk g 29 .u8 x w7 from hc'.out)
    have HB7 := Lib.hid (show Below w.heap.size w w7 from But.toBelow HB1.out hb'.out HG.out HB1.out.size)
    clear hc' hb'
    go_wp2_with fail
    exact bodyPost_ret (results_nums rfl _ _ g .u8 _ 29 _ rfl HC7.out Tryz.underlying29 rfl HI.out) rfl ⟨by rw [HEQ.out], HB7.out⟩
  | succ k ih =>
    intro i w hE hi hk
    have hi3 : (2 * i + 1 + 1) * 2 ^ k ≤ L.length := by
      rw [Nat.pow_succ] at hi
      rw [show 2 * i + 1 + 1 = (i + 1) * 2 by omega, Nat.mul_assoc, Nat.mul_comm 2]
      exact hi
    have hi4 : (2 * i + 1) * 2 ^ k ≤ L.length := Nat.le_trans (Nat.mul_le_mul_right _ (by omega)) hi3
    have hi5 : 2 * i + 2 ≤ 256 := by
      have := Nat.le_trans (Nat.le_mul_of_pos_right (2 * i + 1 + 1) (Nat.two_pow_pos k)) hi3
      omega
    have IH1 := Lib.hid (fun w hE => ih (2 * i) w hE hi4 (by omega))
    have IH2 := Lib.hid (fun w hE => ih (2 * i + 1) w hE hi3 (by omega))
    obtain ⟨hx1, hx2⟩ := atN_ok hL k (2 * i) (Nat.lt_of_lt_of_le (Nat.mul_lt_mul_of_pos_right (Nat.lt_succ_self _) (Nat.two_pow_pos k)) hi4)
    obtain ⟨hy1, hy2⟩ := atN_ok hL k (2 * i + 1) (Nat.lt_of_lt_of_le (Nat.mul_lt_mul_of_pos_right (Nat.lt_succ_self _) (Nat.two_pow_pos k)) hi3)
    have HEQ := Shut.mk (show atN L (k + 1) i = upN (atN L k (2 * i)) (atN L k (2 * i + 1)) ((k + 1 : Nat) : Int) (i : Int) from rfl)
    have HE := Lib.hid hE
    obtain ⟨x, hx⟩ : ∃ x, atN L k (2 * i) = x := ⟨_, rfl⟩
    obtain ⟨y, hy⟩ : ∃ x, atN L k (2 * i + 1) = x := ⟨_, rfl⟩
    rw [hx] at hx1 hx2 HEQ IH1
    rw [hy] at hy1 hy2 HEQ IH2
    have HX1 := Lib.hid hx1
    have HX2 := Lib.hid hx2
    have HY1 := Lib.hid hy1
    have HY2 := Lib.hid hy2
    have hUL := upN_len x y ((k + 1 : Nat) : Int) (i : Int)
    clear ih hi hi3 hi4 hE hx hy hx1 hx2 hy1 hy2
    go_enter Tryz.func21, Tryz.ntmps21
    go_upto_region 1 with (fail)
    change Code.wp _ _ _ _ (w.alloc (.cells (nums .u8 (List.replicate 16 0)).toArray 29))
    obtain ⟨w1, hw1⟩ : ∃ x', x' = w.alloc (.cells (nums .u8 (List.replicate 16 0)).toArray 29) := ⟨_, rfl⟩
    rw [← hw1]
    have hb1 : Below w.heap.size w w1 := by rw [hw1]; exact (Below.refl _ _).alloc (Nat.le_refl _) _
    have HR1 := Lib.hid (show Blk w.heap.size 29 .u8 (List.replicate 16 0) w1 by rw [hw1]; exact heap_alloc_new w _)
    have HB1 := Lib.hid hb1
    have HE1 := Lib.hid (HE.out.below hb1)
    obtain ⟨g, hg⟩ : ∃ g, g = w.heap.size := ⟨_, rfl⟩
    rw [← hg] at HR1 ⊢
    have HG := Lib.hid (show w.heap.size ≤ g by omega)
    clear hg hw1 hb1 HE
    have hk1 : (((k + 1 : Nat) : Int)) - 1 = (k : Int) := by omega
    go_wp2_with fail
    have c1 := IH1.out w1 HE1.out
    rw [show ((2 * i : Nat) : Int) = 2 * (i : Int) by omega] at c1
    refine c1.mono ?_
    rintro e w2 ⟨rfl, hb2⟩
    have HR2 := Lib.hid (HR1.out.below hb2)
    have HB2 := Lib.hid (HB1.out.trans (hb2.mono HB1.out.size))
    have HE2 := Lib.hid (HE1.out.below hb2)
    clear hb2 HR1 HB1 HE1 c1 IH1
    go_wp2_with fail
    have c2 := IH2.out w2 HE2.out
    rw [show ((2 * i + 1 : Nat) : Int) = 2 * (i : Int) + 1 by omega] at c2
    refine c2.mono ?_
    rintro e w3 ⟨rfl, hb3⟩
    have HR3 := Lib.hid (HR2.out.below hb3)
    have HB3 := Lib.hid (HB2.out.trans (hb3.mono HB2.out.size))
    clear hb3 HR2 HB2 HE2 c2 IH2
    go_wp2_with fail
    refine (ref_up x y ((k + 1 : Nat) : Int) (i : Int) w3 HX1.out HX2.out HY1.out HY2.out (by omega) (by omega) (by omega) (by omega)).mono ?_
    rintro e w4 ⟨rfl, hb4⟩
    have HR4 := Lib.hid (HR3.out.below hb4)
    have HB4 := Lib.hid (HB3.out.trans (hb4.mono HB3.out.size))
    clear hb4 HR3 HB3
    rw [← HEQ.out] at hUL ⊢
    obtain ⟨U, hU⟩ : ∃ U, atN L (k + 1) i = U := ⟨_, rfl⟩
    rw [hU] at hUL ⊢
    have HUL := Lib.hid hUL
    have HUE := Shut.mk hU
    clear hU hUL
    have HI := Lib.hid (show (Tryz.prog.info? 29).map (·.size) = some U.length by rw [HUL.out]; exact Tryz.infoE)
    have HL2 := Lib.hid (show (List.replicate 16 0).length = U.length by rw [HUL.out]; rfl)
    go_wp2_with (refine wpList_store_nums rfl 29 _ _ rfl rfl g .u8 _ U 29 rfl rfl HR4.out HI.out HL2.out ?_)
    intro w7 hc' hb'
    have HC7 := Lib.hid (show Blk g 29 .u8 U w7 from hc'.out)
    have HB7 := Lib.hid (show Below w.heap.size w w7 from But.toBelow HB4.out hb'.out HG.out HB4.out.size)
    clear hc' hb'
    go_wp2_with fail
    exact bodyPost_ret (results_nums rfl _ _ g .u8 _ 29 _ rfl HC7.out Tryz.underlying29 rfl HI.out) rfl ⟨by rw [HUE.out], HB7.out⟩
theorem sib_fit {h k i : Nat} (hk : k < h) (hi : i < 2 ^ h) : (sibN (i / 2 ^ k) + 1) * 2 ^ k ≤ 2 ^ h :=
  Nat.le_trans (Nat.mul_le_mul_right _ (sib_lt hk hi)) (Nat.div_mul_le_self _ _)
set_option maxHeartbeats 1000000 in
set_option maxRecDepth 100000 in
theorem ref_path (L : List (List Nat)) (i h : Nat) (ao : Option Addr) (cap : Nat) (w : World) (hL : Elems L) (hE : EAt ao L w) (hn : L.length = 2 ^ h) (h8 : h ≤ 8) (hi : i < L.length) :
    Calls Tryz.prog 76 #[.slice ao L.length cap, .int .i64 i] w fun e w' => (∃ v, e = .returned v ∧ OwnE w.heap.size 29 v (pathN L i h) w') ∧ Below w.heap.size w w' := by
  have HE := Lib.hid hE
  have LE := Lib.hid hL
  have HH := Shut.mk (show heightN L.length = h by rw [hn, heightN_pow])
  have h256 : L.length ≤ 256 := by rw [hn]; exact Nat.le_trans (Nat.pow_le_pow_right (by decide) h8) (by decide)
  have HF := Lib.hid (fun k (hk : k < h) => show (sibN (i / 2 ^ k) + 1) * 2 ^ k ≤ L.length by rw [hn]; exact sib_fit hk (by rw [← hn]; exact hi))
  have HQ := Lib.hid (fun k => show i / 2 ^ k ≤ 256 from Nat.le_trans (Nat.div_le_self _ _) (by omega))
  clear hE hL hn
  go_enter Tryz.func76, Tryz.ntmps76
  go_wp2_with fail
  go_loopw [1, 5, 6] (fun a v n wq => ∃ k : Nat, k ≤ h ∧ n = .int .i64 k ∧ a = .int .i64 ((i / 2 ^ k : Nat) : Int) ∧ OwnE w.heap.size 29 v (pathN L i k) wq ∧ Below w.heap.size w wq) (fun _ _ n _ => h - (intOf n).toNat)
  case atStart => exact ⟨0, by omega, rfl, by simp, OwnE.nil _ _ _, Below.refl _ _⟩
  case round =>
    obtain ⟨k, hk, rfl, rfl, ho, hb⟩ := hrel
    have HB := Lib.hid hb
    have HO0 := Lib.hid ho
    clear ho hb
    go_wp2_with fail
    refine (height_any L.length wr (by omega)).mono ?_
    rintro e w1 ⟨rfl, rfl⟩
    rw [HH.out]
    by_cases hlk : k < h
    · have hlk2 : (k : Int) < (h : Int) := by omega
      have ho := HO0.out
      clear HO0
      obtain ⟨a1, c1, rfl⟩ := ho.form
      rw [pathN_len] at ho ⊢
      have HO := Lib.hid ho
      have HP := Shut.mk (pathN_next L i k)
      have HPL := Shut.mk (pathN_len L i k)
      have HE1 := Lib.hid (HE.out.below HB.out)
      have hf := HF.out k hlk
      have hd := HQ.out k
      have HD := Shut.mk (show i / 2 ^ (k + 1) = i / 2 ^ k / 2 by rw [Nat.pow_succ, Nat.div_div_eq_div_mul])
      obtain ⟨q, hq⟩ : ∃ q, i / 2 ^ k = q := ⟨_, rfl⟩
      obtain ⟨M, hM⟩ : ∃ M, pathN L i k = M := ⟨_, rfl⟩
      rw [hq] at HP HD hf hd ⊢
      rw [hM] at HO HP HPL
      clear ho hq hM
      by_cases hpar : q % 2 = 1
      · have HS := Shut.mk (show sibN q = q - 1 by unfold sibN; rw [if_pos hpar])
        rw [HS.out] at hf HP
        have hp2 : ((q : Int) % 2 = 1) := by omega
        have HF1 := Lib.hid (show (q - 1 + 1) * 2 ^ k ≤ L.length from hf)
        obtain ⟨hx1, hx2⟩ := atN_ok LE.out k (q - 1) (Nat.lt_of_lt_of_le (Nat.mul_lt_mul_of_pos_right (Nat.lt_succ_self _) (Nat.two_pow_pos k)) hf)
        clear HS hf
        go_wp2_with fail
        have c1 := ref_at L _ cap LE.out h256 k (q - 1) w1 HE1.out HF1.out (by omega)
        rw [show ((q - 1 : Nat) : Int) = (q : Int) - 1 by omega] at c1
        refine c1.mono ?_
        rintro e w2 ⟨rfl, hb2⟩
        have HO2 := Lib.hid (HO.out.below hb2)
        have HB2 := Lib.hid (HB.out.trans (hb2.mono HB.out.size))
        obtain ⟨x, hx⟩ : ∃ x, atN L k (q - 1) = x := ⟨_, rfl⟩
        rw [hx] at HP hx1 hx2 ⊢
        have HX1 := Lib.hid hx1
        have HX2 := Lib.hid hx2
        clear hb2 HO HB HE1 c1 hx hx1 hx2 HF1
        go_wp2_with (refine wpList_build_elem rfl 34 29 (.tmp 26) rfl x rfl HX1.out Tryz.underlying34 Tryz.infoE16 ?_)
        intro w3 hl3 hb3
        have HL3 := Lib.hid (blk_news hl3.out)
        have HO3 := Lib.hid (HO2.out.below hb3.out)
        have HB3 := Lib.hid (HB2.out.trans (hb3.out.mono HB2.out.size))
        clear hl3 hb3 HO2 HB2
        go_wp2_with (at_builtin; refine wpList_append_elems rfl (.tmp 22) (.tmp 27) 34 29 rfl w.heap.size _ rfl Tryz.underlying34 Tryz.infoE16 _ M [x] (Elems.one HX1.out HX2.out) ⟨w2.heap.size, 0, none⟩ 1 1 rfl rfl HO3.out rfl (by rw [flatE_one]; exact HL3.out) (by rw [HPL.out]; simp; omega) HB3.out.size ?_)
        intro v4 w4 ho4 hb4
        have HB4 := Lib.hid (HB3.out.trans hb4.out)
        clear hb4 HB3
        go_wp2_with fail
        exact ⟨⟨k + 1, by omega, by go_num, by rw [HD.out]; go_num, by rw [HP.out]; exact ho4.out, HB4.out⟩, by simp [intOf]; omega⟩
      · have HS := Shut.mk (show sibN q = q + 1 by unfold sibN; rw [if_neg hpar])
        rw [HS.out] at hf HP
        have hp2 : ¬ ((q : Int) % 2 = 1) := by omega
        have HF1 := Lib.hid (show (q + 1 + 1) * 2 ^ k ≤ L.length from hf)
        obtain ⟨hx1, hx2⟩ := atN_ok LE.out k (q + 1) (Nat.lt_of_lt_of_le (Nat.mul_lt_mul_of_pos_right (Nat.lt_succ_self _) (Nat.two_pow_pos k)) hf)
        clear HS hf
        go_wp2_with fail
        have c1 := ref_at L _ cap LE.out h256 k (q + 1) w1 HE1.out HF1.out (by omega)
        rw [show ((q + 1 : Nat) : Int) = (q : Int) + 1 by omega] at c1
        refine c1.mono ?_
        rintro e w2 ⟨rfl, hb2⟩
        have HO2 := Lib.hid (HO.out.below hb2)
        have HB2 := Lib.hid (HB.out.trans (hb2.mono HB.out.size))
        obtain ⟨x, hx⟩ : ∃ x, atN L k (q + 1) = x := ⟨_, rfl⟩
        rw [hx] at HP hx1 hx2 ⊢
        have HX1 := Lib.hid hx1
        have HX2 := Lib.hid hx2
        clear hb2 HO HB HE1 c1 hx hx1 hx2 HF1
        go_wp2_with (refine wpList_build_elem rfl 34 29 (.tmp 26) rfl x rfl HX1.out Tryz.underlying34 Tryz.infoE16 ?_)
        intro w3 hl3 hb3
        have HL3 := Lib.hid (blk_news hl3.out)
        have HO3 := Lib.hid (HO2.out.below hb3.out)
        have HB3 := Lib.hid (HB2.out.trans (hb3.out.mono HB2.out.size))
        clear hl3 hb3 HO2 HB2
        go_wp2_with (at_builtin; refine wpList_append_elems rfl (.tmp 22) (.tmp 27) 34 29 rfl w.heap.size _ rfl Tryz.underlying34 Tryz.infoE16 _ M [x] (Elems.one HX1.out HX2.out) ⟨w2.heap.size, 0, none⟩ 1 1 rfl rfl HO3.out rfl (by rw [flatE_one]; exact HL3.out) (by rw [HPL.out]; simp; omega) HB3.out.size ?_)
        intro v4 w4 ho4 hb4
        have HB4 := Lib.hid (HB3.out.trans hb4.out)
        clear hb4 HB3
        go_wp2_with fail
        exact ⟨⟨k + 1, by omega, by go_num, by rw [HD.out]; go_num, by rw [HP.out]; exact ho4.out, HB4.out⟩, by simp [intOf]; omega⟩
    · have hlk2 : ¬ (k : Int) < (h : Int) := by omega
      obtain rfl : k = h := by omega
      go_wp2_with fail
      go_ret
      exact ⟨⟨_, rfl, HO0.out⟩, HB.out⟩
end Go.Proofs.YtpfhlhcnmeodbaaGreatDoor
namespace Go.Proofs.YtpfhlhcnmeodbaaGreatDoor
open Go.RowKit Go.BigFrame
set_option maxHeartbeats 1000000 in
set_option maxRecDepth 100000 in
theorem ref_leaves (seed : List UInt8) (h : Int) (w : World) (hs : seed.length ≤ 4000) :
    Calls Tryz.prog 20 #[.string ⟨seed.toArray⟩, .int .i64 h] w fun e w' => (∃ v, e = .returned v ∧ OwnE w.heap.size 29 v (leavesN seed (wideN h)) w') ∧ Below w.heap.size w w' := by
  have HW0 := wideN_le h
  have HWI := Lib.hid (fun w => ref_wide h w)
  obtain ⟨W, hW⟩ : ∃ W, wideN h = W := ⟨_, rfl⟩
  rw [hW] at HW0 HWI ⊢
  have HS := Lib.hid hs
  clear hW hs
  go_enter Tryz.func20, Tryz.ntmps20
  go_wp2_with fail
  go_loopw [5, 6] (fun v n wq => ∃ k : Nat, k ≤ W ∧ n = .int .i64 k ∧ OwnE w.heap.size 29 v (leavesN seed k) wq ∧ Below w.heap.size w wq) (fun _ n _ => W - (intOf n).toNat)
  case atStart => exact ⟨0, by omega, rfl, OwnE.nil _ _ _, Below.refl _ _⟩
  case round =>
    obtain ⟨k, hk, rfl, ho, hb⟩ := hrel
    have HO := Lib.hid ho
    have HB := Lib.hid hb
    clear ho hb
    go_wp2_with fail
    refine (HWI.out wr).mono ?_
    rintro e w1 ⟨rfl, rfl⟩
    by_cases hlk : k < W
    · have hlk2 : (k : Int) < (W : Int) := by omega
      have HNX := Shut.mk (leavesN_next seed k)
      have HXL := leafN_len seed (k : Int)
      have HXT := leafN_lt seed (k : Int)
      have HPL := Shut.mk (leavesN_len seed k)
      have HLF := Lib.hid (fun w => ref_leaf seed (k : Int) w HS.out (by omega) (by omega))
      obtain ⟨x, hx⟩ : ∃ x, leafN seed (k : Int) = x := ⟨_, rfl⟩
      obtain ⟨M, hM⟩ : ∃ M, leavesN seed k = M := ⟨_, rfl⟩
      rw [hx] at HNX HXL HXT HLF
      rw [hM] at HNX HPL HO
      have HX1 := Lib.hid HXL
      have HX2 := Lib.hid HXT
      clear hx hM HXL HXT
      go_wp2_with fail
      refine (HLF.out w1).mono ?_
      rintro e w2 ⟨rfl, hb2⟩
      have HO2 := Lib.hid (HO.out.below hb2)
      have HB2 := Lib.hid (HB.out.trans (hb2.mono HB.out.size))
      clear hb2 HO HB HLF
      go_wp2_with (refine wpList_build_elem rfl 34 29 (.tmp 16) rfl x rfl HX1.out Tryz.underlying34 Tryz.infoE16 ?_)
      intro w3 hl3 hb3
      have HL3 := Lib.hid (blk_news hl3.out)
      have HO3 := Lib.hid (HO2.out.below hb3.out)
      have HB3 := Lib.hid (HB2.out.trans (hb3.out.mono HB2.out.size))
      clear hl3 hb3 HO2 HB2
      go_wp2_with (at_builtin; refine wpList_append_elems rfl (.tmp 13) (.tmp 17) 34 29 rfl w.heap.size _ rfl Tryz.underlying34 Tryz.infoE16 _ M [x] (Elems.one HX1.out HX2.out) ⟨w2.heap.size, 0, none⟩ 1 1 rfl rfl HO3.out rfl (by rw [flatE_one]; exact HL3.out) (by rw [HPL.out]; simp; omega) HB3.out.size ?_)
      intro v4 w4 ho4 hb4
      have HB4 := Lib.hid (HB3.out.trans hb4.out)
      clear hb4 HB3
      go_wp2_with fail
      exact ⟨⟨k + 1, by omega, by go_num, by rw [HNX.out]; exact ho4.out, HB4.out⟩, by simp [intOf]; omega⟩
    · obtain rfl : k = W := by omega
      have hnw : ¬ (k : Int) < (k : Int) := by omega
      go_wp2_with fail
      go_ret
      exact ⟨⟨_, rfl, HO.out⟩, HB.out⟩
set_option maxHeartbeats 1000000 in
set_option maxRecDepth 100000 in
theorem ref_root6 (L : List (List Nat)) (h : Nat) (ao : Option Addr) (cap : Nat) (w : World) (hL : Elems L) (hE : EAt ao L w) (hn : L.length = 2 ^ h) (h8 : h ≤ 8) :
    Calls Tryz.prog 6 #[.slice ao L.length cap] w fun e w' => e = .returned (.agg (nums .u8 (atN L h 0)).toArray) ∧ Below w.heap.size w w' := by
  have HE := Lib.hid hE
  have h256 : L.length ≤ 256 := by rw [hn]; exact Nat.le_trans (Nat.pow_le_pow_right (by decide) h8) (by decide)
  have HH := Shut.mk (show heightN L.length = h by rw [hn, heightN_pow])
  have HA := Lib.hid (fun w hE => ref_at L ao cap hL h256 h 0 w hE (by rw [Nat.zero_add, Nat.one_mul, hn]; exact Nat.le_refl _) h8)
  obtain ⟨hx1, hx2⟩ := atN_ok hL h 0 (by rw [Nat.zero_mul, hn]; exact Nat.two_pow_pos h)
  obtain ⟨x, hx⟩ : ∃ x, atN L h 0 = x := ⟨_, rfl⟩
  rw [hx] at HA hx1 ⊢
  have HI := Lib.hid (show (Tryz.prog.info? 29).map (·.size) = some x.length by rw [hx1]; exact Tryz.infoE)
  have HL2 := Lib.hid (show (List.replicate 16 0).length = x.length by rw [hx1]; rfl)
  clear hE hn hL hx hx1 hx2
  go_enter Tryz.func6, Tryz.ntmps6
  go_upto_region 1 with (fail)
  change Code.wp _ _ _ _ (w.alloc (.cells (nums .u8 (List.replicate 16 0)).toArray 29))
  obtain ⟨w1, hw1⟩ : ∃ x', x' = w.alloc (.cells (nums .u8 (List.replicate 16 0)).toArray 29) := ⟨_, rfl⟩
  rw [← hw1]
  have HR1 := Lib.hid (show Blk w.heap.size 29 .u8 (List.replicate 16 0) w1 by rw [hw1]; exact heap_alloc_new w _)
  have HB1 := Lib.hid (show Below w.heap.size w w1 by rw [hw1]; exact (Below.refl _ _).alloc (Nat.le_refl _) _)
  obtain ⟨g, hgg⟩ : ∃ g, g = w.heap.size := ⟨_, rfl⟩
  rw [← hgg] at HR1 ⊢
  have HGG := Lib.hid (show w.heap.size ≤ g by omega)
  clear hw1 hgg
  go_wp2_with fail
  refine (height_any L.length w1 (by omega)).mono ?_
  rintro e w2 ⟨rfl, rfl⟩
  rw [HH.out]
  go_wp2_with fail
  refine (HA.out w2 (HE.out.below HB1.out)).mono ?_
  rintro e w3 ⟨rfl, hb3⟩
  have HR3 := Lib.hid (HR1.out.below hb3)
  have HB3 := Lib.hid (HB1.out.trans (hb3.mono HB1.out.size))
  clear hb3 HR1 HB1
  go_wp2_with (refine wpList_store_nums rfl 29 _ _ rfl rfl g .u8 _ x 29 rfl rfl HR3.out HI.out HL2.out ?_)
  intro w7 hc' hb'
  have HC7 := Lib.hid (show Blk g 29 .u8 x w7 from hc'.out)
  have HB7 := Lib.hid (show Below w.heap.size w w7 from But.toBelow HB3.out hb'.out HGG.out HB3.out.size)
  clear hc' hb'
  go_wp2_with fail
  exact bodyPost_ret (results_nums rfl _ _ g .u8 _ 29 _ rfl HC7.out Tryz.underlying29 rfl HI.out) rfl ⟨rfl, HB7.out⟩
set_option maxHeartbeats 2000000 in
set_option maxRecDepth 100000 in
theorem ref_sign6 (seed : List UInt8) (h i : Nat) (t : List UInt8) (ao : Option Addr) (cap : Nat) (w : World) (hs : seed.length ≤ 4000) (h8 : h ≤ 8) (hi : i < 2 ^ h) (ht : t.length ≤ 1000000) (hE : EAt ao (leavesN seed (2 ^ h)) w) :
    Calls Tryz.prog 44 #[.string ⟨seed.toArray⟩, .slice ao (2 ^ h) cap, .int .i64 i, .string ⟨t.toArray⟩] w fun e w' => e = .returned (.string ⟨(signK seed h i t).toArray⟩) ∧ Below w.heap.size w w' := by
  have hLL := leavesN_len seed (2 ^ h)
  have hpow : 2 ^ h ≤ 256 := Nat.le_trans (Nat.pow_le_pow_right (by decide) h8) (by decide)
  have hi2 : i < 256 := by omega
  have HRT := Lib.hid (fun w hE => ref_root6 (leavesN seed (2 ^ h)) h ao cap w (leavesN_ok _ _) hE hLL h8)
  have HPT := Lib.hid (fun w hE => ref_path (leavesN seed (2 ^ h)) i h ao cap w (leavesN_ok _ _) hE hLL h8 (by rw [hLL]; exact hi))
  rw [hLL] at HRT HPT
  rw [show atN (leavesN seed (2 ^ h)) h 0 = rootK seed h from rfl] at HRT
  obtain ⟨hr1, hr2⟩ := rootK_ok seed h
  have HPE := pathK_ok seed hi
  have HPL := pathN_len (leavesN seed (2 ^ h)) i h
  have HSK := Shut.mk (show signK seed h i t = signN seed i (digK (rootK seed h) i t) ++ flatT (pathN (leavesN seed (2 ^ h)) i h) from rfl)
  obtain ⟨S, hS⟩ : ∃ S, signK seed h i t = S := ⟨_, rfl⟩
  obtain ⟨r, hr⟩ : ∃ r, rootK seed h = r := ⟨_, rfl⟩
  obtain ⟨P, hP⟩ : ∃ P, pathN (leavesN seed (2 ^ h)) i h = P := ⟨_, rfl⟩
  rw [hS] at HSK ⊢
  rw [hr] at HSK HRT hr1 hr2
  rw [hP] at HSK HPT HPE HPL
  have hd1 := digK_len r i t
  have hd2 := digK_lt r i t
  have HDG := Lib.hid (fun w => ref_digest6 r i t w hr1 hr2 (by omega) ht)
  obtain ⟨d, hd⟩ : ∃ d, digK r i t = d := ⟨_, rfl⟩
  rw [hd] at HSK hd1 hd2 HDG
  have HSG := Lib.hid (fun w => ref_sign seed (i : Int) d w hs (by omega) (by omega) hd1 hd2)
  have hgl := signN_len seed i d
  obtain ⟨G, hG⟩ : ∃ G, signN seed i d = G := ⟨_, rfl⟩
  rw [hG] at HSK HSG hgl
  have LP := Lib.hid HPE
  obtain ⟨m, hm⟩ : ∃ m, 2 ^ h = m := ⟨_, rfl⟩
  rw [hm] at HRT HPT hpow hE ⊢
  have HE := Lib.hid hE
  clear hLL hS hr hP hd hG hr1 hr2 hd1 hd2 hE hs hi hm
  go_enter Tryz.func44, Tryz.ntmps44
  go_wp2_with fail
  refine (HRT.out w HE.out).mono ?_
  rintro e w1 ⟨rfl, hb1⟩
  have HB1 := Lib.hid hb1
  clear hb1
  go_wp2_with fail
  refine (HDG.out w1).mono ?_
  rintro e w2 ⟨rfl, hb2⟩
  have HB2 := Lib.hid (HB1.out.trans (hb2.mono HB1.out.size))
  clear hb2 HB1
  go_wp2_with fail
  refine (HSG.out w2).mono ?_
  rintro e w3 ⟨rfl, hb3⟩
  have HB3 := Lib.hid (HB2.out.trans (hb3.mono HB2.out.size))
  clear hb3 HB2
  go_wp2_with fail
  refine (HPT.out w3 (HE.out.below HB3.out)).mono ?_
  rintro e w4 ⟨⟨v, rfl, ho⟩, hb4⟩
  obtain ⟨a1, c1, rfl⟩ := ho.form
  have HP4 := Lib.hid (ho.at HPE)
  have HB4 := Lib.hid (HB3.out.trans (hb4.mono HB3.out.size))
  clear ho hb4 HB3 HRT HDG HSG HPT HPE
  go_wp2_with fail
  go_loopw [9, 24] (fun s n wq => ∃ k : Nat, k ≤ P.length ∧ n = .int .i64 k ∧ s = .string ⟨(G ++ flatT (P.take k)).toArray⟩ ∧ Below w4.heap.size w4 wq) (fun _ n _ => P.length - (intOf n).toNat)
  case atStart => exact ⟨0, by omega, rfl, by simp [flatT], Below.refl _ _⟩
  case round =>
    obtain ⟨k, hk, rfl, rfl, hb⟩ := hrel
    have HB := Lib.hid hb
    by_cases hlk : k < P.length
    · obtain ⟨b, o, rfl, hbb⟩ := HP4.out.some (by omega)
      have HX := Lib.hid (rangeAt_below (HP4.out.get hlk) hb hbb)
      obtain ⟨hx1, hx2⟩ := LP.out.getD hlk
      have HTN := Shut.mk (show G ++ flatT (P.take (k + 1)) = (G ++ flatT (P.take k)) ++ txt (P.getD k []) by rw [take_next hlk, flatT_append, flatT_one, List.append_assoc])
      have hql : (G ++ flatT (P.take k)).length = 560 + 16 * k := by rw [List.length_append, hgl, flatT_len (LP.out.take k), take_len hk]
      obtain ⟨x, hx⟩ : ∃ x, P.getD k [] = x := ⟨_, rfl⟩
      obtain ⟨Q, hQ⟩ : ∃ Q, G ++ flatT (P.take k) = Q := ⟨_, rfl⟩
      rw [hx] at hx1 hx2 HX HTN
      rw [hQ] at HTN hql ⊢
      have hcl : ¬ 9223372036854775807 < Q.length + (txt x).length := by rw [hql, txt_len, hx1]; omega
      have HX1 := Lib.hid hx1
      have HX2 := Lib.hid hx2
      clear hx hQ hx1 hx2 hb hbb hql
      have HI := Lib.hid (show (Tryz.prog.info? 29).map (·.size) = some x.length by rw [HX1.out]; exact Tryz.infoE)
      have HLX := Lib.hid (show (List.replicate 16 0).length = x.length by rw [HX1.out]; rfl)
      have HX8 := Lib.hid (show Blk wr.heap.size 29 .u8 (List.replicate 16 0) (wr.alloc (.cells (nums .u8 (List.replicate 16 0)).toArray 29)) from heap_alloc_new wr _)
      go_wp2_with (first
        | (refine wpList_load_elem rfl 29 _ rfl b (o + k * 16) x _ rfl HX.out Tryz.underlying29 rfl HI.out ?_)
        | (refine wpList_store_nums rfl 29 _ _ rfl rfl wr.heap.size .u8 _ x 29 rfl rfl HX8.out HI.out HLX.out ?_))
      intro w5 hc' hb'
      have hb5 : Below wr.heap.size wr w5 := But.toBelow ((Below.refl _ wr).alloc (Nat.le_refl _) _) hb'.out (Nat.le_refl _) (by simp)
      have HY5 := Lib.hid (show Blk wr.heap.size 29 .u8 x w5 from hc'.out)
      have HB5 := Lib.hid (HB.out.trans (hb5.mono HB.out.size))
      obtain ⟨gy, hgy⟩ : ∃ g, g = wr.heap.size := ⟨_, rfl⟩
      rw [← hgy] at HY5 ⊢
      clear hc' hb' hb5 hgy HB HX8 HLX
      have hconv := conv_blk (P := Tryz.prog) w5 97 9 5 gy 16 16 x 29 HX1.out.symm HX2.out HY5.out Tryz.underlying97 Tryz.underlying5 Tryz.underlying9
      have hcat := cat2 Q (txt x)
      go_wp2_with fail
      exact ⟨⟨k + 1, by omega, by go_num, by rw [HTN.out], HB5.out⟩, by simp [intOf]; omega⟩
    · obtain rfl : k = P.length := by omega
      have hnw : ¬ (P.length : Int) < (P.length : Int) := by omega
      have HBr := Lib.hid (HB4.out.trans (hb.mono HB4.out.size))
      rw [List.take_length, ← HSK.out]
      clear hb HB HB4
      go_wp2_with fail
      go_ret
      exact ⟨rfl, HBr.out⟩
end Go.Proofs.YtpfhlhcnmeodbaaGreatDoor
namespace Go.Proofs.YtpfhlhcnmeodbaaGreatDoor
open Go.RowKit Go.BigFrame
def cutE (s : List UInt8) (k : Nat) : List (List Nat) := (List.range k).map fun j => byteNs (part s j)
theorem cutE_len (s : List UInt8) (k : Nat) : (cutE s k).length = k := by simp [cutE]
theorem cutE_next (s : List UInt8) (k : Nat) : cutE s (k + 1) = cutE s k ++ [byteNs (part s k)] := by simp [cutE, List.range_succ]
theorem byteNs_part_len {s : List UInt8} {j : Nat} (h : 16 * j + 16 ≤ s.length) : (byteNs (part s j)).length = 16 := by
  rw [byteNs, List.length_map, part, List.length_take, List.length_drop]
  omega
theorem cutE_ok {s : List UInt8} {k : Nat} (h : 16 * k ≤ s.length) : Elems (cutE s k) := by
  intro x hx
  obtain ⟨j, hj, rfl⟩ := List.mem_map.1 hx
  have := List.mem_range.1 hj
  exact ⟨byteNs_part_len (by omega), byteNs_part_lt _ _⟩
theorem cutE_drop (s : List UInt8) (k : Nat) : cutE (s.drop 560) k = pathK s k := by
  refine List.map_congr_left fun j _ => ?_
  rw [part, part, List.drop_drop]
  congr 3
  omega
def partC (s : List UInt8) (k i : Nat) : List (List Nat) := cutE s i ++ List.replicate (k - i) (List.replicate 16 0)
theorem partC_zero (s : List UInt8) (k : Nat) : partC s k 0 = List.replicate k (List.replicate 16 0) := by simp [partC, cutE]
theorem partC_full (s : List UInt8) (k : Nat) : partC s k k = cutE s k := by simp [partC]
theorem partC_len (s : List UInt8) {k i : Nat} (h : i ≤ k) : (partC s k i).length = k := by
  rw [partC, List.length_append, cutE_len, List.length_replicate]; omega
theorem partC_ok {s : List UInt8} {k i : Nat} (h : 16 * i ≤ s.length) : Elems (partC s k i) := (cutE_ok h).append (Elems.zeros _)
theorem partC_set (s : List UInt8) {k i : Nat} (h : i < k) : (partC s k i).set i (byteNs (part s i)) = partC s k (i + 1) := by
  rw [partC, partC, cutE_next, List.set_append_right _ _ (by rw [cutE_len]; exact Nat.le_refl _), cutE_len, Nat.sub_self, show k - i = (k - (i + 1)) + 1 by omega, List.replicate_succ, List.set_cons_zero, List.append_assoc]
  rfl
theorem run_copy_elem {P : Program} (w : World) (dT sT ty elem : TypeId) (B g n c i cap : Nat) (e : TypeId) (L : List (List Nat)) (s : List UInt8)
    (hu : P.underlying dT = some (.slice elem)) (hs : (P.info? elem).map (·.size) = some 1) (hn : n = L.length) (hO : OwnE B e (.slice (some ⟨g, 0, none⟩) n c) L w) (hL : Elems L) (hi : i < n) (h16 : 16 ≤ s.length) :
    (Builtin.copy_ #[dT, sT] ty #[.slice (some ⟨g, 16 * i, none⟩) 16 cap, .string ⟨s.toArray⟩]).run P w = .ok (goInt 16) (w.setCells g (16 * i) (nums .u8 (byteNs (s.take 16)))) := by
  have hlen : (Lib.byteCells (s.take 16)).length = 16 := by rw [Lib.byteCells_length, List.length_take]; omega
  have hth := hO.there hn hL hi
  have hst := run_storeCells_cells (P := P) g (16 * i) (Lib.byteCells (s.take 16)) 0 w (by rw [hlen]; intro j hj; exact (hth j hj).1) (by rw [hlen]; intro j hj; exact (hth j hj).2) (Lib.byteCells_one _)
  have htk : List.take 16 (List.map (fun b : UInt8 => Value.int IntKind.u8 (b.toNat : Int)) s) = Lib.byteCells (s.take 16) := by
    rw [← List.map_take, Lib.byteCells]
  have hsz : (⟨s.toArray⟩ : ByteArray).size = s.length := by simp [ByteArray.size]
  rw [byteCells_nums] at hst htk
  cases hq : P.info? elem with
  | none => simp [hq] at hs
  | some i =>
    have hmin : s.length.min 16 = 16 := Nat.min_eq_right h16
    simp [Builtin.copy_, run_underlying hu, Builtin.lenOf, Builtin.firstCells, sizeOf, typeInfo, hq, hsz, hmin]
    rw [htk, hst]
    simp [Result.andThen]
theorem wpList_copy_elem {P : Program} {w : World} {ops : Array Oper} {rest : List Oper} {o : Oper} {a : Act} {Q : Exit → Act → World → Prop} (hgd : o.guard = none) (d x : Operand) (dT sT : TypeId)
    (ho : o.op = .call { callee := .builtin .copy, args := #[d, x], argTypes := #[dT, sT] }) (elem : TypeId) (hu : P.underlying dT = some (.slice elem)) (hs : (P.info? elem).map (·.size) = some 1)
    (B g n c i off cap : Nat) (e : TypeId) (L : List (List Nat)) (s : List UInt8) (hn : n = L.length) (hoff : off = 16 * i) (hd : a.eval d = .slice (some ⟨g, off, none⟩) 16 cap) (hx : a.eval x = .string ⟨s.toArray⟩)
    (hO : OwnE B e (.slice (some ⟨g, 0, none⟩) n c) L w) (hL : Elems L) (hi : i < n) (h16 : 16 ≤ s.length)
    (h : ∀ w', Hid (OwnE B e (.slice (some ⟨g, 0, none⟩) n c) (L.set i (byteNs (s.take 16))) w') → Hid (But g w w') → wpList P ops Q rest (a.put o.dst (goInt 16)) w') :
    wpList P ops Q (o :: rest) a w := by
  subst hoff
  refine wpList_plain hgd fun K hK => ?_
  have hrun := run_copy_elem (P := P) w dT sT o.type elem B g n c i cap e L s hu hs hn hO hL hi h16
  unfold Oper.wp
  simp [execOp, ho, resolve, invoke, builtin, hd, hx, hrun, Result.andThen]
  refine hK _ _ (h _ (hO.set hn hL hi (by rw [byteNs, List.length_map, List.length_take]; omega) ?_) (But.setCells _ _ _ (But.refl _ _)))
  intro y hy
  obtain ⟨b, _, rfl⟩ := List.mem_map.1 hy
  exact b.toNat_lt
theorem OwnT.room {B g n c j : Nat} {e : TypeId} {k : IntKind} {l : List Nat} {w : World} (h : OwnT B e k (.slice (some ⟨g, 0, none⟩) n c) l w) (hj : j < c) : (w.cell? ⟨g, j, none⟩).isSome = true ∧ w.frozen? ⟨g, j, none⟩ = false := by
  obtain ⟨g', cap, cur, fz, hv, hb, hg, hfz, hlc, hcm, hcs, htk⟩ := h
  simp only [Value.slice.injEq, Option.some.injEq, Addr.mk.injEq, and_true] at hv
  obtain ⟨rfl, _, rfl⟩ := hv
  refine ⟨?_, ?_⟩
  · rw [Lib.cell_of_heap hg j, Array.getElem?_eq_getElem (by omega)]
    rfl
  · obtain ⟨lo, hi⟩ := fz
    simp only [World.frozen?, hg, Bool.and_eq_false_iff, decide_eq_false_iff_not]
    simp only at hfz
    rcases hfz with h | h
    · right; omega
    · left; omega
theorem OwnT.push {B g c : Nat} {e : TypeId} {k : IntKind} {l : List Nat} {w : World} (h : OwnT B e k (.slice (some ⟨g, 0, none⟩) l.length c) l w) (hr : l.length + 1 ≤ c) (x : Nat) :
    OwnT B e k (.slice (some ⟨g, 0, none⟩) (l ++ [x]).length c) (l ++ [x]) (w.setCell ⟨g, l.length, none⟩ (.int k (x : Int))) := by
  obtain ⟨g', cap, cur, fz, hv, hb, hg, hfz, hlc, hcm, hcs, htk⟩ := h
  simp only [Value.slice.injEq, Option.some.injEq, Addr.mk.injEq, and_true, true_and] at hv
  obtain ⟨rfl, rfl⟩ := hv
  refine ⟨g, c, _, fz, rfl, hb, heap_setCell_at hg, hfz, by simpa using hr, hcm, by simpa using hcs, ?_⟩
  rw [Array.toList_setIfInBounds, nums_snoc, ← htk, List.length_append, List.length_singleton]
  have hl : l.length < (cur.toList.set l.length (.int k x)).length := by simp; omega
  rw [List.take_succ_eq_append_getElem hl, List.take_set_of_le (Nat.le_refl _)]
  simp
theorem OwnT.pushes {B g c : Nat} {e : TypeId} {k : IntKind} : ∀ (m l : List Nat) (w : World), OwnT B e k (.slice (some ⟨g, 0, none⟩) l.length c) l w → l.length + m.length ≤ c →
    OwnT B e k (.slice (some ⟨g, 0, none⟩) (l ++ m).length c) (l ++ m) (w.setCells g l.length (nums k m))
  | [], l, w, h, _ => by rw [List.append_nil]; exact h
  | x :: m, l, w, h, hr => by
    simp only [List.length_cons] at hr
    have h2 := OwnT.pushes m (l ++ [x]) _ (h.push (by omega) x) (by simp; omega)
    rw [List.append_assoc, List.singleton_append, show (l ++ [x]).length = l.length + 1 by simp] at h2
    exact h2
theorem run_append_tails {P : Program} (w : World) (base : Nat) (t ty e : TypeId) (i : TypeInfo) (z : Value) (bytes : Nat) (k : IntKind) (ht : P.underlying t = some (.slice e)) (hi : P.info? e = some i) (hz : i.zero = some z)
    (hsize : i.size = 1) (hby : i.bytes = bytes) (hzs : z.cells.size = 1) (v : Value) (l m : List Nat) (hown : OwnT base e k v l w)
    (a : Addr) (c : Nat) (hnews : ∀ j u, (nums k m)[j]? = some u → w.cell? (a.add j) = some u) (h63 : l.length + m.length ≤ maxLen) (hbytes : (l.length + m.length) * bytes ≤ 140737488355328) (hbase : base ≤ w.heap.size) :
    ∃ v' w', (Builtin.append_ #[t, t] ty #[v, .slice (some a) m.length c]).run P w = .ok v' w' ∧ OwnT base e k v' (l ++ m) w' ∧ Below base w w' := by
  have hcells : ∀ g, v.ownBlock = some g → ∀ j (hj : j < l.length), w.cell? ⟨g, j, none⟩ = some (.int k (l[j] : Int)) := fun g hg => hown.cells hg
  obtain ⟨g, cap, rfl⟩ := hown.form
  have hb := (hown.lt g rfl).1
  have hsmall : l.length + m.length ≤ 9223372036854775807 := by simp only [maxLen] at h63; omega
  have hnl : (nums k m).length = m.length * i.size := by rw [nums_len, hsize, Nat.mul_one]
  by_cases hroom : l.length + m.length ≤ cap
  · have hf := run_firstCells_some (P := P) w i.size m.length a m.length c (nums k m) hnl hnews
    rw [hsize] at hf
    have hst := run_storeCells_cells (P := P) g l.length (nums k m) 0 w (by rw [nums_len]; intro j hj; exact (hown.room (by omega)).1) (by rw [nums_len]; intro j hj; exact (hown.room (by omega)).2) (nums_one k m)
    rw [Nat.add_zero] at hst
    have ho := OwnT.pushes m l w hown hroom
    rw [List.length_append] at ho
    refine ⟨.slice (some ⟨g, 0, none⟩) (l.length + m.length) cap, w.setCells g l.length (nums k m), ?_, ho, But.toBelow (Below.refl base w) (But.setCells _ _ _ (But.refl g w)) hb hbase⟩
    simp [Builtin.append_, run_underlying ht, sizeOf, typeInfo, hi, hsize, Builtin.lenOf, hroom, hf, Addr.add_lit, hst]
  · have hr := run_append_grow (P := P) w t ty e i z ht hi hz ⟨g, 0, none⟩ l.length cap (nums k l) (by rw [nums_len, hsize, Nat.mul_one]) (fun j u hj => by
        have hj' : j < l.length := by
          have := (List.getElem?_eq_some_iff.1 hj).1
          rwa [nums_len] at this
        rw [Addr.add_lit, Nat.zero_add, hcells g rfl j hj', ← hj]
        simp [nums, List.getElem?_eq_getElem hj']) a m.length c (nums k m) hnl hnews (by omega) (by omega) (growslice_fits (by omega) (by rw [hby]; exact hbytes))
    have hge := grownCap_ge w (l.length + m.length) cap e
    have hcm2 := grownCap_le_maxLen w (l.length + m.length) cap e h63
    refine ⟨_, _, hr, ⟨w.heap.size, _, _, (0, 0), by rw [List.length_append], hbase, heap_alloc_new w.drew _, Or.inl rfl, by rw [List.length_append]; exact hge, hcm2, ?_, ?_⟩, (drawn_below (Below.refl base w) 1).alloc (by show base ≤ w.heap.size; exact hbase) _⟩
    · simp only [Array.size_append, List.size_toArray, size_zeroCells, hzs, nums_len]
      omega
    · rw [show nums k (l ++ m) = nums k l ++ nums k m by simp [nums]]
      simp only [Array.toList_append, List.length_append]
      rw [List.take_append_of_le_length (by simp [nums_len]), List.take_of_length_le (by simp [nums_len])]
theorem wpList_append_tails {P : Program} {w : World} {ops : Array Oper} {rest : List Oper} {o : Oper} {a : Act} {Q : Exit → Act → World → Prop} (hgd : o.guard = none) (s x : Operand) (t e : TypeId)
    (ho : o.op = .call { callee := .builtin .append, args := #[s, x], argTypes := #[t, t] })
    (B : Nat) (k : IntKind) (bytes : Nat) (ht : P.underlying t = some (.slice e)) (hinfo : (P.info? e).map (fun i => (i.zero, i.size, i.bytes)) = some (some (.int k 0), 1, bytes))
    (v : Value) (l m : List Nat) (ad : Addr) (n c : Nat) (hn : n = m.length) (hs : a.eval s = v) (hown : OwnT B e k v l w) (hx : a.eval x = .slice (some ad) n c) (hnews : ∀ j u, (nums k m)[j]? = some u → w.cell? (ad.add j) = some u)
    (h63 : l.length + m.length ≤ maxLen) (hbytes : (l.length + m.length) * bytes ≤ 140737488355328) (hB : B ≤ w.heap.size)
    (h : ∀ v' w', Hid (OwnT B e k v' (l ++ m) w') → Hid (Below B w w') → wpList P ops Q rest (a.put o.dst v') w') : wpList P ops Q (o :: rest) a w := by
  obtain ⟨i, hi, hz0, hz1, hz2⟩ := info_parts hinfo
  subst hn
  obtain ⟨v', w', hr, h1, h2⟩ := run_append_tails (P := P) w B t o.type e i (.int k 0) bytes k ht hi hz0 hz1 hz2 rfl v l m hown ad c hnews h63 hbytes hB
  refine wpList_plain hgd fun K hK => ?_
  unfold Oper.wp
  simp [execOp, ho, resolve, invoke, builtin, hs, hx, hr, Result.andThen]
  exact hK _ _ (h _ _ h1 h2)
end Go.Proofs.YtpfhlhcnmeodbaaGreatDoor
