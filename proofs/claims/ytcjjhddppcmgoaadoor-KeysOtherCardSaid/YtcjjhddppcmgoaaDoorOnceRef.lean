/-
  The document's Leaf, Sign, Meet.
-/
import Derived.Test.YtcjjhddppcmgoaaDoorOnceDev
/-! The document's Leaf, Sign, Meet. -/
namespace Go.Proofs.YtcjjhddppcmgoaaDoor
open Go.RowKit Go.BigFrame

set_option maxHeartbeats 1000000 in
set_option maxRecDepth 100000 in
theorem ref_leaf (seed : List UInt8) (i : Int) (w : World) (hs : seed.length ≤ 4000) (hi0 : -9223372036854775808 ≤ i) (hi : i ≤ 9223372036854775807) :
    Calls Tryd.prog 28 #[.string ⟨seed.toArray⟩, .int .i64 i] w fun e w' => e = .returned (.agg (nums .u8 (leafN seed i)).toArray) ∧ Below w.heap.size w w' := by
  have HS := Lib.hid hs
  have HI0 := Lib.hid hi0
  have HI1 := Lib.hid hi
  clear hs hi0 hi
  go_enter Tryd.func28, Tryd.ntmps28
  go_upto_region 1 with (fail)
  change Code.wp _ _ _ _ (w.alloc (.cells (nums .u8 (List.replicate 16 0)).toArray 31))
  obtain ⟨w1, hw1⟩ : ∃ x', x' = w.alloc (.cells (nums .u8 (List.replicate 16 0)).toArray 31) := ⟨_, rfl⟩
  rw [← hw1]
  have HB1 := Lib.hid (show Below w.heap.size w w1 by rw [hw1]; exact (Below.refl _ _).alloc (Nat.le_refl _) _)
  have HR1 := Lib.hid (show Blk w.heap.size 31 .u8 (List.replicate 16 0) w1 by rw [hw1]; exact heap_alloc_new w _)
  clear hw1
  go_wp2_with fail
  go_loopw [5, 6] (fun s n wq => ∃ k : Nat, k ≤ 35 ∧ n = .int .i64 k ∧ s = .string ⟨(rowE (endF seed i) k).toArray⟩ ∧ Below w1.heap.size w1 wq) (fun _ n _ => 35 - (intOf n).toNat)
  case atStart => exact ⟨0, by omega, rfl, rfl, Below.refl _ _⟩
  case round =>
    obtain ⟨k, hk, rfl, rfl, hb⟩ := hrel
    have HB := Lib.hid hb
    have HW := Lib.hid hb.size
    clear hb
    by_cases hlk : k < 35
    · go_wp2_with fail
      refine (ref_secret seed i k wr HS.out HI0.out HI1.out (by omega) (by omega)).mono ?_
      rintro e w2 ⟨rfl, hb2⟩
      have HB2 := Lib.hid (HB.out.trans (hb2.mono HB.out.size))
      clear hb2 HB
      go_wp2_with fail
      refine (ref_walk (secN seed i k) i k 0 15 w2 (secN_len _ _ _) (secN_lt _ _ _) HI0.out HI1.out (by omega) (by omega) (by omega) (by omega) (by omega) (by omega)).mono ?_
      rintro e w3 ⟨rfl, hb3⟩
      rw [show walkI (secN seed i k) (placeB i k) 0 15 = endF seed i k from rfl]
      have HB3 := Lib.hid (HB2.out.trans (hb3.mono HB2.out.size))
      have HW3 := Lib.hid (HB3.out.size)
      have HFL := Lib.hid (endF_len seed i k)
      have HFT := Lib.hid (endF_lt seed i k)
      have HRN := Lib.hid (show rowE (endF seed i) (k + 1) = rowE (endF seed i) k ++ txt (endF seed i k) from rfl)
      have hcl : ¬ 9223372036854775807 < (rowE (endF seed i) k).length + (txt (endF seed i k)).length := by rw [rowE_len (endF_len seed i), txt_len, endF_len]; omega
      generalize endF seed i k = x at *
      generalize rowE (endF seed i) k = R at *
      clear hb3 HB2
      have HX3 := Lib.hid (show Blk w3.heap.size 31 .u8 (List.replicate 16 0) (w3.alloc (.cells (nums .u8 (List.replicate 16 0)).toArray 31)) from heap_alloc_new w3 _)
      have HI := Lib.hid (show (Tryd.prog.info? 31).map (·.size) = some x.length by rw [HFL.out]; exact Tryd.infoE)
      have HL2 := Lib.hid (show (List.replicate 16 0).length = x.length by rw [HFL.out]; rfl)
      go_wp2_with (refine wpList_store_nums rfl 31 _ _ rfl rfl w3.heap.size .u8 _ x 31 rfl rfl HX3.out HI.out HL2.out ?_)
      intro w5 hc' hb'
      have HX5 := Lib.hid (show Blk w3.heap.size 31 .u8 x w5 from hc'.out)
      have HB5 := Lib.hid (show Below w1.heap.size w1 w5 from But.toBelow (HB3.out.alloc HW3.out _) hb'.out HW3.out (by have := HW3.out; simp; omega))
      clear hc' hb' HX3 HB3 HI HL2
      have hconv := conv_blk (P := Tryd.prog) w5 44 9 5 w3.heap.size 16 16 x 31 HFL.out.symm HFT.out HX5.out Tryd.underlying44 Tryd.underlying5 Tryd.underlying9
      have hcat := cat2 R (txt x)
      go_wp2_with fail
      exact ⟨⟨k + 1, by omega, by go_num, by rw [HRN.out], HB5.out⟩, by simp [intOf]; omega⟩
    · obtain rfl : k = 35 := by omega
      have HRr := Lib.hid (HR1.out.below HB.out)
      have HBr := Lib.hid (HB1.out.trans (HB.out.mono HB1.out.size))
      have HEL := Lib.hid (show (rowE (endF seed i) 35).length ≤ 4000 by rw [rowE_len (endF_len seed i)]; decide)
      have HLF := Lib.hid (show keyN (rowE (endF seed i) 35) i = leafN seed i from rfl)
      generalize rowE (endF seed i) 35 = E at *
      clear HB HB1 HR1
      go_wp2_with fail
      refine (ref_of4 E i _ HEL.out HI0.out HI1.out).mono ?_
      rintro e w4 ⟨rfl, hb4⟩
      rw [HLF.out]
      have HR4 := Lib.hid (HRr.out.below hb4)
      have HB4 := Lib.hid (HBr.out.trans (hb4.mono HBr.out.size))
      have HNL := Lib.hid (show (leafN seed i).length = 16 from keyN_len _ _)
      clear hb4 HRr HBr HEL HLF
      obtain ⟨N, hN⟩ : ∃ N, leafN seed i = N := ⟨_, rfl⟩
      rw [hN] at HNL ⊢
      have HN := Lib.hid hN
      clear hN
      have HI := Lib.hid (show (Tryd.prog.info? 31).map (·.size) = some N.length by rw [HNL.out]; exact Tryd.infoE)
      have HL2 := Lib.hid (show (List.replicate 16 0).length = N.length by rw [HNL.out]; rfl)
      go_wp2_with (refine wpList_store_nums rfl 31 _ _ rfl rfl w.heap.size .u8 _ N 31 rfl rfl HR4.out HI.out HL2.out ?_)
      intro w7 hc' hb'
      have HC7 := Lib.hid (show Blk w.heap.size 31 .u8 N w7 from hc'.out)
      have HB7 := Lib.hid (show Below w.heap.size w w7 from But.toBelow HB4.out hb'.out (by omega) HB4.out.size)
      clear hc' hb'
      go_wp2_with fail
      exact bodyPost_ret (results_nums rfl _ _ w.heap.size .u8 _ 31 _ rfl HC7.out Tryd.underlying31 rfl HI.out) rfl ⟨by rw [HN.out], HB7.out⟩

set_option maxHeartbeats 1000000 in
set_option maxRecDepth 100000 in
theorem ref_sign (seed : List UInt8) (i : Int) (d : List Nat) (w : World) (hs : seed.length ≤ 4000) (hi0 : -9223372036854775808 ≤ i) (hi : i ≤ 9223372036854775807) (hd : d.length = 16) (ld : ∀ y ∈ d, y < 256) :
    Calls Tryd.prog 37 #[.string ⟨seed.toArray⟩, .int .i64 i, .agg (nums .u8 d).toArray] w fun e w' => e = .returned (.string ⟨(signN seed i d).toArray⟩) ∧ Below w.heap.size w w' := by
  have HS := Lib.hid hs
  have HD := Lib.hid hd
  have LD := Lib.hid ld
  have HI0 := Lib.hid hi0
  have HI1 := Lib.hid hi
  clear hs hi0 hi hd ld
  go_enter Tryd.func37, Tryd.ntmps37
  go_upto_region 1 with (fail)
  obtain ⟨w1, hw1⟩ : ∃ x', x' = w.alloc (.cells (nums .u8 d).toArray 31) := ⟨_, rfl⟩
  rw [← hw1]
  have HB1 := Lib.hid (show Below w.heap.size w w1 by rw [hw1]; exact (Below.refl _ _).alloc (Nat.le_refl _) _)
  have HD1 := Lib.hid (show Blk w.heap.size 31 .u8 d w1 by rw [hw1]; exact heap_alloc_new w _)
  have HI := Lib.hid (show (Tryd.prog.info? 31).map (·.size) = some d.length by rw [HD.out]; exact Tryd.infoE)
  clear hw1
  go_wp2_with (refine wpList_load_nums rfl 31 _ rfl w.heap.size .u8 _ 31 _ rfl HD1.out Tryd.underlying31 rfl HI.out ?_)
  refine (ref_digits d _ HD.out LD.out).mono ?_
  rintro e w2 ⟨ao, cp, rfl, ho, hb2⟩
  obtain ⟨g, c2, hv, hg1, hg2⟩ := ho.formB (by rw [digN_len HD.out]; decide)
  obtain rfl : ao = some ⟨g, 0, none⟩ := by injection hv
  have HO2 := Lib.hid ho
  have HB2 := Lib.hid (HB1.out.trans (hb2.mono HB1.out.size))
  have HDL := Lib.hid (digN_len HD.out)
  have LDL := Lib.hid (digN_lt HD.out LD.out)
  have HSF := Lib.hid (show ∀ j, sgnF seed i d j = walkI (secN seed i j) (placeB i j) 0 ((digN d).getD j 0 : Nat) from fun j => rfl)
  have HSN := Lib.hid (show signN seed i d = rowE (sgnF seed i d) 35 from rfl)
  have HSL := Lib.hid (sgnF_len seed i d)
  have HST := Lib.hid (sgnF_lt seed i d)
  obtain ⟨D, hDn⟩ : ∃ D, digN d = D := ⟨_, rfl⟩
  rw [hDn] at HO2 HDL LDL HSF
  clear hb2 HB1 HD1 ho hv hg1 hg2 HI hDn
  go_wp2_with fail
  go_loopw [7, 14] (fun s n wq => ∃ k : Nat, k ≤ 35 ∧ n = .int .i64 k ∧ s = .string ⟨(rowE (sgnF seed i d) k).toArray⟩ ∧ Below w2.heap.size w2 wq) (fun _ n _ => 35 - (intOf n).toNat)
  case atStart => exact ⟨0, by omega, rfl, rfl, Below.refl _ _⟩
  case round =>
    obtain ⟨k, hk, rfl, rfl, hb⟩ := hrel
    have HB := Lib.hid hb
    have HO := Lib.hid (HO2.out.below hb)
    have HW := Lib.hid hb.size
    clear hb
    by_cases hlk : k < 35
    · have c1 := HO.out.cellN HDL.out.symm k hlk
      have hy := getD_lt LDL.out (by decide) k
      have HF := Lib.hid (HSF.out k)
      generalize D.getD k 0 = y at c1 hy HF
      go_upto_if 15 with (fail)
      rw [show decide ((k : Int) < 35) = true from decide_eq_true (by omega)]
      go_wp2_with fail
      refine (ref_secret seed i k wr HS.out HI0.out HI1.out (by omega) (by omega)).mono ?_
      rintro e w2' ⟨rfl, hb2⟩
      have HB2' := Lib.hid (HB.out.trans (hb2.mono HB.out.size))
      clear hb2 HB HO c1
      go_wp2_with fail
      refine (ref_walk (secN seed i k) i k 0 y w2' (secN_len _ _ _) (secN_lt _ _ _) HI0.out HI1.out (by omega) (by omega) (by omega) (by omega) (by omega) (by omega)).mono ?_
      rintro e w3 ⟨rfl, hb3⟩
      rw [← HF.out]
      have HB3 := Lib.hid (HB2'.out.trans (hb3.mono HB2'.out.size))
      have HW3 := Lib.hid (HB3.out.size)
      have HFL := Lib.hid (HSL.out k)
      have HFT := Lib.hid (HST.out k)
      have HRN := Lib.hid (show rowE (sgnF seed i d) (k + 1) = rowE (sgnF seed i d) k ++ txt (sgnF seed i d k) from rfl)
      have hcl : ¬ 9223372036854775807 < (rowE (sgnF seed i d) k).length + (txt (sgnF seed i d k)).length := by rw [rowE_len (sgnF_len seed i d), txt_len, sgnF_len]; omega
      clear HF
      generalize sgnF seed i d k = x at *
      generalize rowE (sgnF seed i d) k = R at *
      clear hb3 HB2'
      have HX3 := Lib.hid (show Blk w3.heap.size 31 .u8 (List.replicate 16 0) (w3.alloc (.cells (nums .u8 (List.replicate 16 0)).toArray 31)) from heap_alloc_new w3 _)
      have HI := Lib.hid (show (Tryd.prog.info? 31).map (·.size) = some x.length by rw [HFL.out]; exact Tryd.infoE)
      have HL2 := Lib.hid (show (List.replicate 16 0).length = x.length by rw [HFL.out]; rfl)
      go_wp2_with (refine wpList_store_nums rfl 31 _ _ rfl rfl w3.heap.size .u8 _ x 31 rfl rfl HX3.out HI.out HL2.out ?_)
      intro w5 hc' hb'
      have HX5 := Lib.hid (show Blk w3.heap.size 31 .u8 x w5 from hc'.out)
      have HB5 := Lib.hid (show Below w2.heap.size w2 w5 from But.toBelow (HB3.out.alloc HW3.out _) hb'.out HW3.out (by have := HW3.out; simp; omega))
      clear hc' hb' HX3 HB3 HI HL2
      have hconv := conv_blk (P := Tryd.prog) w5 44 9 5 w3.heap.size 16 16 x 31 HFL.out.symm HFT.out HX5.out Tryd.underlying44 Tryd.underlying5 Tryd.underlying9
      have hcat := cat2 R (txt x)
      go_wp2_with fail
      exact ⟨⟨k + 1, by omega, by go_num, by rw [HRN.out], HB5.out⟩, by simp [intOf]; omega⟩
    · obtain rfl : k = 35 := by omega
      have HBr := Lib.hid (HB2.out.trans (HB.out.mono HB2.out.size))
      go_upto_if 15 with (fail)
      go_wp2_with fail
      go_ret
      exact ⟨by rw [HSN.out]; rfl, HBr.out⟩
end Go.Proofs.YtcjjhddppcmgoaaDoor

/-! The document's Meet. -/
namespace Go.Proofs.YtcjjhddppcmgoaaDoor
open Go.RowKit Go.BigFrame

theorem part_at (s : List UInt8) (k q : Nat) (hq : q < 16) (hk : 16 * k + 16 ≤ s.length) : (byteNs (part s k)).getD q 0 = (s[16 * k + q]'(by omega)).toNat := by
  have h1 : q < ((s.drop (16 * k)).take 16).length := by simp; omega
  rw [byteNs, part, List.getD_eq_getElem?_getD, List.getElem?_map, List.getElem?_eq_getElem h1]
  simp
theorem run_part_at {P : Program} (t : TypeId) (h : P.underlying t = some .string) (s : List UInt8) (k q : Nat) (hq : q < 16) (hk : 16 * k + 16 ≤ s.length) (w : World) :
    (Instr.index t (.string ⟨s.toArray⟩) (.int .i64 (16 * (k : Int) + (q : Int)))).run P w = .ok (.int .u8 (((byteNs (part s k)).getD q 0 : Nat) : Int)) w := by
  have e : (⟨s.toArray⟩ : ByteArray).size = s.length := by simp [ByteArray.size]
  rw [run_index_string (P := P) w t _ .i64 _ h, dif_pos ⟨by omega, by rw [e]; omega⟩, part_at s k q hq hk]
  have e2 : (16 * (k : Int) + (q : Int)).toNat = 16 * k + q := by omega
  simp only [e2]
  rfl

set_option maxHeartbeats 1000000 in
set_option maxRecDepth 100000 in
theorem ref_meet (sig : List UInt8) (i : Int) (d : List Nat) (w : World) (hs : sig.length = 560) (hi0 : -9223372036854775808 ≤ i) (hi : i ≤ 9223372036854775807) (hd : d.length = 16) (ld : ∀ y ∈ d, y < 256) :
    Calls Tryd.prog 42 #[.string ⟨sig.toArray⟩, .int .i64 i, .agg (nums .u8 d).toArray] w fun e w' => e = .returned (.tuple #[.agg (nums .u8 (meetN sig i d)).toArray, .bool true]) ∧ Below w.heap.size w w' := by
  have HS := Lib.hid hs
  have HD := Lib.hid hd
  have LD := Lib.hid ld
  have HI0 := Lib.hid hi0
  have HI1 := Lib.hid hi
  clear hs hi0 hi hd ld
  go_enter Tryd.func42, Tryd.ntmps42
  go_upto_region 1 with (fail)
  change Code.wp _ _ _ _ ((w.alloc (.cells (nums .u8 d).toArray 31)).alloc (.cells (nums .u8 (List.replicate 16 0)).toArray 31))
  obtain ⟨w1, hw1⟩ : ∃ x', x' = (w.alloc (.cells (nums .u8 d).toArray 31)).alloc (.cells (nums .u8 (List.replicate 16 0)).toArray 31) := ⟨_, rfl⟩
  rw [← hw1]
  have h3 : Blk w.heap.size 31 .u8 d w1 ∧ Blk (w.heap.size + 1) 31 .u8 (List.replicate 16 0) w1 ∧ Below w.heap.size w w1 := by rw [hw1]; exact two_new w _ _ _ _
  obtain ⟨hx1, hr1, hb1⟩ := h3
  have HD1 := Lib.hid hx1
  have HR1 := Lib.hid hr1
  have HB1 := Lib.hid hb1
  have HI := Lib.hid (show (Tryd.prog.info? 31).map (·.size) = some d.length by rw [HD.out]; exact Tryd.infoE)
  obtain ⟨gr, hgr⟩ : ∃ g, g = w.heap.size + 1 := ⟨_, rfl⟩
  rw [← hgr] at HR1 ⊢
  have HGR := Lib.hid hgr
  clear hx1 hr1 hb1 hw1 hgr
  have hlen := HS.out
  go_wp2_with (refine wpList_load_nums rfl 31 _ rfl w.heap.size .u8 _ 31 _ rfl HD1.out Tryd.underlying31 rfl HI.out ?_)
  refine (ref_digits d _ HD.out LD.out).mono ?_
  rintro e w2 ⟨ao, cp, rfl, ho, hb2⟩
  obtain ⟨g, c2, hv, hg1, hg2⟩ := ho.formB (by rw [digN_len HD.out]; decide)
  obtain rfl : ao = some ⟨g, 0, none⟩ := by injection hv
  have HO2 := Lib.hid ho
  have HB2 := Lib.hid (HB1.out.trans (hb2.mono HB1.out.size))
  have HR2 := Lib.hid (HR1.out.below hb2)
  have HDL := Lib.hid (digN_len HD.out)
  have LDL := Lib.hid (digN_lt HD.out LD.out)
  have HSF := Lib.hid (show ∀ j, fromF sig i (digN d) j = walkI (byteNs (part sig j)) (placeB i j) ((digN d).getD j 0 : Nat) 15 from fun j => rfl)
  have HMN := Lib.hid (meetN_of sig i d)
  obtain ⟨D, hDn⟩ : ∃ D, digN d = D := ⟨_, rfl⟩
  rw [hDn] at HO2 HDL LDL HSF HMN
  clear hb2 HB1 HD1 HR1 ho hv hg1 hg2 HI hDn hlen
  go_wp2_with fail
  go_loopw [8, 20] (fun s n wq => ∃ k : Nat, k ≤ 35 ∧ n = .int .i64 k ∧ s = .string ⟨(rowE (fromF sig i D) k).toArray⟩ ∧ Below w2.heap.size w2 wq) (fun _ n _ => 35 - (intOf n).toNat)
  case atStart => exact ⟨0, by omega, rfl, rfl, Below.refl _ _⟩
  case round =>
    obtain ⟨k, hk, rfl, rfl, hb⟩ := hrel
    have HB := Lib.hid hb
    have HO := Lib.hid (HO2.out.below hb)
    have HW := Lib.hid hb.size
    clear hb
    by_cases hlk : k < 35
    · have c1 := HO.out.cellN HDL.out.symm k hlk
      have hy := getD_lt LDL.out (by decide) k
      have HF := Lib.hid (HSF.out k)
      generalize D.getD k 0 = y at c1 hy HF
      go_upto_if 21 with (fail)
      rw [show decide ((k : Int) < 35) = true from decide_eq_true (by omega)]
      go_upto_region 8 with (fail)
      change Code.wp _ _ _ _ (wr.alloc (.cells (nums .u8 (List.replicate 16 0)).toArray 31))
      obtain ⟨w3, hw3⟩ : ∃ x', x' = wr.alloc (.cells (nums .u8 (List.replicate 16 0)).toArray 31) := ⟨_, rfl⟩
      rw [← hw3]
      have hb3 : Below wr.heap.size wr w3 := by rw [hw3]; exact (Below.refl _ _).alloc (Nat.le_refl _) _
      have HX3 := Lib.hid (show Blk wr.heap.size 31 .u8 (List.replicate 16 0) w3 by rw [hw3]; exact heap_alloc_new wr _)
      have HB3 := Lib.hid (HB.out.trans (hb3.mono HB.out.size))
      have HSZ := Lib.hid (show sig.length = 560 from HS.out)
      have HPL := Lib.hid (partN_len HS.out hlk)
      have HPN := Lib.hid (byteNs_part_lt sig k)
      have HPA := Lib.hid (fun q (hq : q < 16) => fun w => run_part_at (P := Tryd.prog) 9 Tryd.underlying9 sig k q hq (by have := HS.out; omega) w)
      obtain ⟨gx, hgx⟩ : ∃ g, g = wr.heap.size := ⟨_, rfl⟩
      rw [← hgx] at HX3 ⊢
      have HGX := Lib.hid (show w2.heap.size ≤ gx by have := HW.out; omega)
      have HFL := Lib.hid (fromF_len HS.out i D hlk)
      have HFT := Lib.hid (fromF_lt sig i D k)
      have HRN := Lib.hid (show rowE (fromF sig i D) (k + 1) = rowE (fromF sig i D) k ++ txt (fromF sig i D k) from rfl)
      have hcl : ¬ 9223372036854775807 < (rowE (fromF sig i D) k).length + (txt (fromF sig i D k)).length := by rw [rowE_len' (k := k) (fun j hj => fromF_len HS.out i D (j := j) (by omega)), txt_len, HFL.out]; omega
      clear hw3 hb3 HO c1 HB hgx
      generalize byteNs (part sig k) = P at *
      generalize fromF sig i D k = x at *
      generalize rowE (fromF sig i D) k = R at *
      go_wp2_with fail
      go_loopw [25] (fun n wq => ∃ q : Nat, q ≤ 16 ∧ n = .int .i64 q ∧ Blk gx 31 .u8 (cutP P q) wq ∧ But gx w3 wq) (fun n _ => 16 - (intOf n).toNat)
      case atStart => exact ⟨0, by omega, rfl, HX3.out, But.refl _ _⟩
      case round =>
        clear HX3
        obtain ⟨q, hq, rfl, hc, hb⟩ := hrel
        have HC := Lib.hid hc
        have HB := Lib.hid hb
        clear hc hb
        by_cases hlq : q < 16
        · have hix := HPA.out q hlq
          have c2 := HC.out.cell q (by rw [cutP_len (by rw [HPL.out]; exact Nat.le_refl _) hq]; exact hlq)
          have f2 := HC.out.frozen q
          have HS3 := Lib.hid (HC.out.set q (P.getD q 0))
          rw [cutP_set (by rw [HPL.out]; exact Nat.le_refl _) hlq] at HS3
          generalize (cutP P q).getD q 0 = z at c2
          generalize P.getD q 0 = v at hix HS3
          go_wp2_with fail
          exact ⟨⟨q + 1, by omega, by go_num, HS3.out, HB.out.setCell _ _⟩, by simp [intOf]; omega⟩
        · obtain rfl : q = 16 := by omega
          rw [cutP_full, List.take_of_length_le (by rw [HPL.out]; exact Nat.le_refl _)] at HC
          have HX4 := Lib.hid (show Blk gx 31 .u8 P wr from HC.out)
          have HB4 := Lib.hid (show Below w2.heap.size w2 wr from But.toBelow HB3.out HB.out HGX.out HB3.out.size)
          have HIP := Lib.hid (show (Tryd.prog.info? 31).map (·.size) = some P.length by rw [HPL.out]; exact Tryd.infoE)
          clear HC HB HPA
          go_wp2_with (refine wpList_load_nums rfl 31 _ rfl gx .u8 _ 31 _ rfl HX4.out Tryd.underlying31 rfl HIP.out ?_)
          refine (ref_walk P i k y 15 _ HPL.out HPN.out HI0.out HI1.out (by omega) (by omega) (by omega) (by omega) (by omega) (by omega)).mono ?_
          rintro e w5 ⟨rfl, hb5⟩
          rw [← HF.out]
          have HX5 := Lib.hid (HX4.out.below hb5)
          have HB5 := Lib.hid (HB4.out.trans (hb5.mono HB4.out.size))
          clear hb5 HX4 HB4 HF HIP
          have HI := Lib.hid (show (Tryd.prog.info? 31).map (·.size) = some x.length by rw [HFL.out]; exact Tryd.infoE)
          have HL2 := Lib.hid (show P.length = x.length by rw [HFL.out, HPL.out])
          go_wp2_with (refine wpList_store_nums rfl 31 _ _ rfl rfl gx .u8 _ x 31 rfl rfl HX5.out HI.out HL2.out ?_)
          intro w6 hc' hb'
          have HX6 := Lib.hid (show Blk gx 31 .u8 x w6 from hc'.out)
          have HB6 := Lib.hid (show Below w2.heap.size w2 w6 from But.toBelow HB5.out hb'.out HGX.out HB5.out.size)
          clear hc' hb' HX5 HB5 HI HL2
          have hconv := conv_blk (P := Tryd.prog) w6 44 9 5 gx 16 16 x 31 HFL.out.symm HFT.out HX6.out Tryd.underlying44 Tryd.underlying5 Tryd.underlying9
          have hcat := cat2 R (txt x)
          go_wp2_with fail
          exact ⟨⟨k + 1, by omega, by go_num, by rw [HRN.out], HB6.out⟩, by simp [intOf]; omega⟩
    · obtain rfl : k = 35 := by omega
      have HRr := Lib.hid (HR2.out.below (HB.out.mono (Nat.le_refl _)))
      have HBr := Lib.hid (HB2.out.trans (HB.out.mono HB2.out.size))
      have HEL := Lib.hid (show (rowE (fromF sig i D) 35).length ≤ 4000 by rw [rowE_len' (k := 35) fun j hj => fromF_len HS.out i _ hj]; decide)
      generalize rowE (fromF sig i D) 35 = E at *
      clear HB HB2 HR2 HO
      go_upto_if 21 with (fail)
      go_wp2_with fail
      refine (ref_of4 E i _ HEL.out HI0.out HI1.out).mono ?_
      rintro e w4 ⟨rfl, hb4⟩
      have HR4 := Lib.hid (HRr.out.below hb4)
      have HB4 := Lib.hid (HBr.out.trans (hb4.mono HBr.out.size))
      have HNL := Lib.hid (show (keyN E i).length = 16 from keyN_len _ _)
      clear hb4 HRr HBr HEL
      generalize keyN E i = N at *
      have HI := Lib.hid (show (Tryd.prog.info? 31).map (·.size) = some N.length by rw [HNL.out]; exact Tryd.infoE)
      have HL2 := Lib.hid (show (List.replicate 16 0).length = N.length by rw [HNL.out]; rfl)
      go_wp2_with (refine wpList_store_nums rfl 31 _ _ rfl rfl gr .u8 _ N 31 rfl rfl HR4.out HI.out HL2.out ?_)
      intro w7 hc' hb'
      have HC7 := Lib.hid (show Blk gr 31 .u8 N w7 from hc'.out)
      have HB7 := Lib.hid (show Below w.heap.size w w7 from But.toBelow HB4.out hb'.out (by have := HGR.out; omega) HB4.out.size)
      clear hc' hb'
      go_wp2_with fail
      exact bodyPost_ret (results_nums_tmp rfl _ _ gr .u8 _ 31 _ _ rfl rfl HC7.out Tryd.underlying31 rfl HI.out) rfl ⟨by rw [← HMN.out]; rfl, HB7.out⟩

set_option maxHeartbeats 1000000 in
set_option maxRecDepth 100000 in
theorem ref_meet_not (sig : List UInt8) (i : Int) (d : List Nat) (w : World) (hs : sig.length ≠ 560) :
    Calls Tryd.prog 42 #[.string ⟨sig.toArray⟩, .int .i64 i, .agg (nums .u8 d).toArray] w fun e w' => e = .returned (.tuple #[.agg (nums .u8 (List.replicate 16 0)).toArray, .bool false]) ∧ Below w.heap.size w w' := by
  have hlen : ((sig.length : Int) == 560) = false := by simp; omega
  have hle : (sig.length : Int) ≠ 560 := by omega
  go_enter Tryd.func42, Tryd.ntmps42
  go_upto_region 1 with (fail)
  change Code.wp _ _ _ _ ((w.alloc (.cells (nums .u8 d).toArray 31)).alloc (.cells (nums .u8 (List.replicate 16 0)).toArray 31))
  obtain ⟨w1, hw1⟩ : ∃ x', x' = (w.alloc (.cells (nums .u8 d).toArray 31)).alloc (.cells (nums .u8 (List.replicate 16 0)).toArray 31) := ⟨_, rfl⟩
  rw [← hw1]
  have h3 : Blk w.heap.size 31 .u8 d w1 ∧ Blk (w.heap.size + 1) 31 .u8 (List.replicate 16 0) w1 ∧ Below w.heap.size w w1 := by rw [hw1]; exact two_new w _ _ _ _
  obtain ⟨hx1, hr1, hb1⟩ := h3
  have HR1 := Lib.hid hr1
  have HB1 := Lib.hid hb1
  obtain ⟨gr, hgr⟩ : ∃ g, g = w.heap.size + 1 := ⟨_, rfl⟩
  rw [← hgr] at HR1 ⊢
  have HGR := Lib.hid hgr
  clear hx1 hr1 hb1 hw1 hgr
  go_wp2_with (refine wpList_store_nums rfl 31 _ _ rfl rfl gr .u8 _ (List.replicate 16 0) 31 rfl rfl HR1.out Tryd.infoE rfl ?_)
  intro w7 hc' hb'
  have HC7 := Lib.hid (show Blk gr 31 .u8 (List.replicate 16 0) w7 from hc'.out)
  have HB7 := Lib.hid (show Below w.heap.size w w7 from But.toBelow HB1.out hb'.out (by have := HGR.out; omega) HB1.out.size)
  clear hc' hb'
  go_wp2_with fail
  exact bodyPost_ret (results_nums_tmp rfl _ _ gr .u8 _ 31 _ _ rfl rfl HC7.out Tryd.underlying31 rfl Tryd.infoE) rfl ⟨rfl, HB7.out⟩
end Go.Proofs.YtcjjhddppcmgoaaDoor
