/-
  The document's Leaf, Sign, Meet.
-/
import Derived.Test.YtlgmlnhjanjplaaDoorOnceG
namespace Go.Proofs.YtlgmlnhjanjplaaDoor
open Go.RowKit Go.BigFrame

set_option maxHeartbeats 1000000 in
set_option maxRecDepth 100000 in
theorem ref_leaf (seed : List UInt8) (i : Int) (w : World) (hs : seed.length ≤ 4000) (hi0 : -9223372036854775808 ≤ i) (hi : i ≤ 9223372036854775807) :
    Calls Tryd.prog 12 #[.string ⟨seed.toArray⟩, .int .i64 i] w fun e w' => e = .returned (.agg (nums .u8 (leafN seed i)).toArray) ∧ Below w.heap.size w w' := by
  have HS := Lib.hid hs
  have HI0 := Lib.hid hi0
  have HI1 := Lib.hid hi
  clear hs hi0 hi
  go_enter Tryd.func12, Tryd.ntmps12
  go_upto_region 1 with (fail)
  change Code.wp _ _ _ _ (w.alloc (.cells (nums .u8 (List.replicate 16 0)).toArray 24))
  obtain ⟨w1, hw1⟩ : ∃ x', x' = w.alloc (.cells (nums .u8 (List.replicate 16 0)).toArray 24) := ⟨_, rfl⟩
  rw [← hw1]
  have HB1 := Lib.hid (show Below w.heap.size w w1 by rw [hw1]; exact (Below.refl _ _).alloc (Nat.le_refl _) _)
  have HR1 := Lib.hid (show Blk w.heap.size 24 .u8 (List.replicate 16 0) w1 by rw [hw1]; exact heap_alloc_new w _)
  clear hw1
  go_wp2_with fail
  go_loopw [5, 6] (fun s n wq => ∃ k : Nat, k ≤ 35 ∧ n = .int .i64 k ∧ s = .string ⟨(rowE (endF seed i) k).toArray⟩ ∧ Below w1.heap.size w1 wq) (fun _ n _ => 35 - (intOf n).toNat)
  case atStart => exact ⟨0, by omega, rfl, rfl, Below.refl _ _⟩
  case round =>
    obtain ⟨k, hk, rfl, rfl, hb⟩ := hrel
    have HB := Lib.hid hb
    have HW := Lib.hid hb.size
    clear hb
    by_cases hlk : k < 35
    · go_wp2_with fail
      refine (ref_secret seed i k wr HS.out HI0.out HI1.out (by omega) (by omega)).mono ?_
      rintro e w2 ⟨rfl, hb2⟩
      have HB2 := Lib.hid (HB.out.trans (hb2.mono HB.out.size))
      clear hb2 HB
      go_wp2_with fail
      refine (ref_walk (secN seed i k) i k 0 15 w2 (secN_len _ _ _) (secN_lt _ _ _) HI0.out HI1.out (by omega) (by omega) (by omega) (by omega) (by omega) (by omega)).mono ?_
      rintro e w3 ⟨rfl, hb3⟩
      rw [show walkI (secN seed i k) (placeB i k) 0 15 = endF seed i k from rfl]
      have HB3 := Lib.hid (HB2.out.trans (hb3.mono HB2.out.size))
      have HW3 := Lib.hid (HB3.out.size)
      have HFL := Lib.hid (endF_len seed i k)
      have HFT := Lib.hid (endF_lt seed i k)
      have HRN := Lib.hid (show rowE (endF seed i) (k + 1) = rowE (endF seed i) k ++ txt (endF seed i k) from rfl)
      have hcl : ¬ 9223372036854775807 < (rowE (endF seed i) k).length + (txt (endF seed i k)).length := by rw [rowE_len (endF_len seed i), txt_len, endF_len]; omega
      generalize endF seed i k = x at *
      generalize rowE (endF seed i) k = R at *
      clear hb3 HB2
      have HX3 := Lib.hid (show Blk w3.heap.size 24 .u8 (List.replicate 16 0) (w3.alloc (.cells (nums .u8 (List.replicate 16 0)).toArray 24)) from heap_alloc_new w3 _)
      have HI := Lib.hid (show (Tryd.prog.info? 24).map (·.size) = some x.length by rw [HFL.out]; exact Tryd.infoE)
      have HL2 := Lib.hid (show (List.replicate 16 0).length = x.length by rw [HFL.out]; rfl)
      go_wp2_with (refine wpList_store_nums rfl 24 _ _ rfl rfl w3.heap.size .u8 _ x 24 rfl rfl HX3.out HI.out HL2.out ?_)
      intro w5 hc' hb'
      have HX5 := Lib.hid (show Blk w3.heap.size 24 .u8 x w5 from hc'.out)
      have HB5 := Lib.hid (show Below w1.heap.size w1 w5 from But.toBelow (HB3.out.alloc HW3.out _) hb'.out HW3.out (by have := HW3.out; simp; omega))
      clear hc' hb' HX3 HB3 HI HL2
      have hconv := conv_blk (P := Tryd.prog) w5 51 9 5 w3.heap.size 16 16 x 24 HFL.out.symm HFT.out HX5.out Tryd.underlying51 Tryd.underlying5 Tryd.underlying9
      have hcat := cat2 R (txt x)
      go_wp2_with fail
      exact ⟨⟨k + 1, by omega, by go_num, by rw [HRN.out], HB5.out⟩, by simp [intOf]; omega⟩
    · obtain rfl : k = 35 := by omega
      have HRr := Lib.hid (HR1.out.below HB.out)
      have HBr := Lib.hid (HB1.out.trans (HB.out.mono HB1.out.size))
      have HEL := Lib.hid (show (rowE (endF seed i) 35).length ≤ 4000 by rw [rowE_len (endF_len seed i)]; decide)
      have HLF := Lib.hid (show keyN (rowE (endF seed i) 35) i = leafN seed i from rfl)
      generalize rowE (endF seed i) 35 = E at *
      clear HB HB1 HR1
      go_wp2_with fail
      refine (ref_of4 E i _ HEL.out HI0.out HI1.out).mono ?_
      rintro e w4 ⟨rfl, hb4⟩
      rw [HLF.out]
      have HR4 := Lib.hid (HRr.out.below hb4)
      have HB4 := Lib.hid (HBr.out.trans (hb4.mono HBr.out.size))
      have HNL := Lib.hid (show (leafN seed i).length = 16 from keyN_len _ _)
      clear hb4 HRr HBr HEL HLF
      obtain ⟨N, hN⟩ : ∃ N, leafN seed i = N := ⟨_, rfl⟩
      rw [hN] at HNL ⊢
      have HN := Lib.hid hN
      clear hN
      have HI := Lib.hid (show (Tryd.prog.info? 24).map (·.size) = some N.length by rw [HNL.out]; exact Tryd.infoE)
      have HL2 := Lib.hid (show (List.replicate 16 0).length = N.length by rw [HNL.out]; rfl)
      go_wp2_with (refine wpList_store_nums rfl 24 _ _ rfl rfl w.heap.size .u8 _ N 24 rfl rfl HR4.out HI.out HL2.out ?_)
      intro w7 hc' hb'
      have HC7 := Lib.hid (show Blk w.heap.size 24 .u8 N w7 from hc'.out)
      have HB7 := Lib.hid (show Below w.heap.size w w7 from But.toBelow HB4.out hb'.out (by omega) HB4.out.size)
      clear hc' hb'
      go_wp2_with fail
      exact bodyPost_ret (results_nums rfl _ _ w.heap.size .u8 _ 24 _ rfl HC7.out Tryd.underlying24 rfl HI.out) rfl ⟨by rw [HN.out], HB7.out⟩

set_option maxHeartbeats 1000000 in
set_option maxRecDepth 100000 in
theorem ref_sign (seed : List UInt8) (i : Int) (d : List Nat) (w : World) (hs : seed.length ≤ 4000) (hi0 : -9223372036854775808 ≤ i) (hi : i ≤ 9223372036854775807) (hd : d.length = 16) (ld : ∀ y ∈ d, y < 256) :
    Calls Tryd.prog 15 #[.string ⟨seed.toArray⟩, .int .i64 i, .agg (nums .u8 d).toArray] w fun e w' => e = .returned (.string ⟨(signN seed i d).toArray⟩) ∧ Below w.heap.size w w' := by
  have HS := Lib.hid hs
  have HD := Lib.hid hd
  have LD := Lib.hid ld
  have HI0 := Lib.hid hi0
  have HI1 := Lib.hid hi
  clear hs hi0 hi hd ld
  go_enter Tryd.func15, Tryd.ntmps15
  go_upto_region 1 with (fail)
  obtain ⟨w1, hw1⟩ : ∃ x', x' = w.alloc (.cells (nums .u8 d).toArray 24) := ⟨_, rfl⟩
  rw [← hw1]
  have HB1 := Lib.hid (show Below w.heap.size w w1 by rw [hw1]; exact (Below.refl _ _).alloc (Nat.le_refl _) _)
  have HD1 := Lib.hid (show Blk w.heap.size 24 .u8 d w1 by rw [hw1]; exact heap_alloc_new w _)
  have HI := Lib.hid (show (Tryd.prog.info? 24).map (·.size) = some d.length by rw [HD.out]; exact Tryd.infoE)
  clear hw1
  go_wp2_with (refine wpList_load_nums rfl 24 _ rfl w.heap.size .u8 _ 24 _ rfl HD1.out Tryd.underlying24 rfl HI.out ?_)
  refine (ref_digits d _ HD.out LD.out).mono ?_
  rintro e w2 ⟨ao, cp, rfl, ho, hb2⟩
  obtain ⟨g, c2, hv, hg1, hg2⟩ := ho.formB (by rw [digN_len HD.out]; decide)
  obtain rfl : ao = some ⟨g, 0, none⟩ := by injection hv
  have HO2 := Lib.hid ho
  have HB2 := Lib.hid (HB1.out.trans (hb2.mono HB1.out.size))
  have HDL := Lib.hid (digN_len HD.out)
  have LDL := Lib.hid (digN_lt HD.out LD.out)
  have HSF := Lib.hid (show ∀ j, sgnF seed i d j = walkI (secN seed i j) (placeB i j) 0 ((digN d).getD j 0 : Nat) from fun j => rfl)
  have HSN := Lib.hid (show signN seed i d = rowE (sgnF seed i d) 35 from rfl)
  have HSL := Lib.hid (sgnF_len seed i d)
  have HST := Lib.hid (sgnF_lt seed i d)
  obtain ⟨D, hDn⟩ : ∃ D, digN d = D := ⟨_, rfl⟩
  rw [hDn] at HO2 HDL LDL HSF
  clear hb2 HB1 HD1 ho hv hg1 hg2 HI hDn
  go_wp2_with fail
  go_loopw [7, 14] (fun s n wq => ∃ k : Nat, k ≤ 35 ∧ n = .int .i64 k ∧ s = .string ⟨(rowE (sgnF seed i d) k).toArray⟩ ∧ Below w2.heap.size w2 wq) (fun _ n _ => 35 - (intOf n).toNat)
  case atStart => exact ⟨0, by omega, rfl, rfl, Below.refl _ _⟩
  case round =>
    obtain ⟨k, hk, rfl, rfl, hb⟩ := hrel
    have HB := Lib.hid hb
    have HO := Lib.hid (HO2.out.below hb)
    have HW := Lib.hid hb.size
    clear hb
    by_cases hlk : k < 35
    · have c1 := HO.out.cellN HDL.out.symm k hlk
      have hy := getD_lt LDL.out (by decide) k
      have HF := Lib.hid (HSF.out k)
      generalize D.getD k 0 = y at c1 hy HF
      go_upto_if 15 with (fail)
      rw [show decide ((k : Int) < 35) = true from decide_eq_true (by omega)]
      go_wp2_with fail
      refine (ref_secret seed i k wr HS.out HI0.out HI1.out (by omega) (by omega)).mono ?_
      rintro e w2' ⟨rfl, hb2⟩
      have HB2' := Lib.hid (HB.out.trans (hb2.mono HB.out.size))
      clear hb2 HB HO c1
      go_wp2_with fail
      refine (ref_walk (secN seed i k) i k 0 y w2' (secN_len _ _ _) (secN_lt _ _ _) HI0.out HI1.out (by omega) (by omega) (by omega) (by omega) (by omega) (by omega)).mono ?_
      rintro e w3 ⟨rfl, hb3⟩
      rw [← HF.out]
      have HB3 := Lib.hid (HB2'.out.trans (hb3.mono HB2'.out.size))
      have HW3 := Lib.hid (HB3.out.size)
      have HFL := Lib.hid (HSL.out k)
      have HFT := Lib.hid (HST.out k)
      have HRN := Lib.hid (show rowE (sgnF seed i d) (k + 1) = rowE (sgnF seed i d) k ++ txt (sgnF seed i d k) from rfl)
      have hcl : ¬ 9223372036854775807 < (rowE (sgnF seed i d) k).length + (txt (sgnF seed i d k)).length := by rw [rowE_len (sgnF_len seed i d), txt_len, sgnF_len]; omega
      clear HF
      generalize sgnF seed i d k = x at *
      generalize rowE (sgnF seed i d) k = R at *
      clear hb3 HB2'
      have HX3 := Lib.hid (show Blk w3.heap.size 24 .u8 (List.replicate 16 0) (w3.alloc (.cells (nums .u8 (List.replicate 16 0)).toArray 24)) from heap_alloc_new w3 _)
      have HI := Lib.hid (show (Tryd.prog.info? 24).map (·.size) = some x.length by rw [HFL.out]; exact Tryd.infoE)
      have HL2 := Lib.hid (show (List.replicate 16 0).length = x.length by rw [HFL.out]; rfl)
      go_wp2_with (refine wpList_store_nums rfl 24 _ _ rfl rfl w3.heap.size .u8 _ x 24 rfl rfl HX3.out HI.out HL2.out ?_)
      intro w5 hc' hb'
      have HX5 := Lib.hid (show Blk w3.heap.size 24 .u8 x w5 from hc'.out)
      have HB5 := Lib.hid (show Below w2.heap.size w2 w5 from But.toBelow (HB3.out.alloc HW3.out _) hb'.out HW3.out (by have := HW3.out; simp; omega))
      clear hc' hb' HX3 HB3 HI HL2
      have hconv := conv_blk (P := Tryd.prog) w5 51 9 5 w3.heap.size 16 16 x 24 HFL.out.symm HFT.out HX5.out Tryd.underlying51 Tryd.underlying5 Tryd.underlying9
      have hcat := cat2 R (txt x)
      go_wp2_with fail
      exact ⟨⟨k + 1, by omega, by go_num, by rw [HRN.out], HB5.out⟩, by simp [intOf]; omega⟩
    · obtain rfl : k = 35 := by omega
      have HBr := Lib.hid (HB2.out.trans (HB.out.mono HB2.out.size))
      go_upto_if 15 with (fail)
      go_wp2_with fail
      go_ret
      exact ⟨by rw [HSN.out]; rfl, HBr.out⟩
end Go.Proofs.YtlgmlnhjanjplaaDoor
