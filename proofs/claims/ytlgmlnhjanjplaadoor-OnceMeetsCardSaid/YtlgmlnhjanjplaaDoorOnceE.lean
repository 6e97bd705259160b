/-
  The developers' ends, Leaf, Sign, Meet.
-/
import Derived.Test.YtlgmlnhjanjplaaDoorOnceD
namespace Go.Proofs.YtlgmlnhjanjplaaDoor
open Go.RowKit Go.BigFrame

theorem rowN_len' {f : Nat → List Nat} {k : Nat} (hf : ∀ j, j < k → (f j).length = 16) : (rowN f k).length = 16 * k := by
  induction k with
  | zero => rfl
  | succ k ih => rw [rowN, List.length_append, ih (fun j hj => hf j (by omega)), hf k (by omega)]; omega
def fromF (sig : List UInt8) (i : Int) (fr : List Nat) (j : Nat) : List Nat := walkI (byteNs (part sig j)) (placeB i j) (fr.getD j 0 : Nat) 15
theorem partN_len {sig : List UInt8} (h : sig.length = 560) {j : Nat} (hj : j < 35) : (byteNs (part sig j)).length = 16 := by rw [byteNs_len, part_len (k := 35) (by omega) hj]
theorem fromF_len {sig : List UInt8} (h : sig.length = 560) (i : Int) (fr : List Nat) {j : Nat} (hj : j < 35) : (fromF sig i fr j).length = 16 := walkI_len (partN_len h hj) _ _ _
theorem fromF_lt (sig : List UInt8) (i : Int) (fr : List Nat) (j : Nat) : ∀ y ∈ fromF sig i fr j, y < 256 := walkI_lt (byteNs_part_lt _ _) _ _ _

set_option maxHeartbeats 4000000 in
set_option maxRecDepth 100000 in
theorem dev_ends (sig : List UInt8) (i : Int) (fr : List Nat) (w : World) (hs : sig.length = 560) (hi0 : -9223372036854775808 ≤ i) (hi : i ≤ 9223372036854775807) (ht : fr.length = 35) (lt : ∀ d ∈ fr, d < 16) (hk : KAt w) :
    Calls Tryd.prog 29 #[.string ⟨sig.toArray⟩, .int .i64 i, .agg (nums .i64 fr).toArray] w fun e w' => e = .returned (.string ⟨(rowE (fromF sig i fr) 35).toArray⟩) ∧ Below w.heap.size w w' := by
  obtain ⟨i0, hi2, hz0, hz1, hz2⟩ := info_parts Tryd.infoByte4
  have HS := Lib.hid hs
  have HK := Lib.hid hk
  have HT := Lib.hid ht
  have LT := Lib.hid lt
  have HI0 := Lib.hid hi0
  have HI1 := Lib.hid hi
  have HY := Lib.hid hi2
  have HY0 := Lib.hid hz0
  have HY1 := Lib.hid hz1
  have HY2 := Lib.hid hz2
  clear hs hk ht lt hi0 hi hi2 hz0 hz1 hz2
  go_enter Tryd.func29, Tryd.ntmps29
  go_upto_region 1 with (fail)
  obtain ⟨w1, hw1⟩ : ∃ x', x' = w.alloc (.cells (nums .i64 fr).toArray 39) := ⟨_, rfl⟩
  rw [← hw1]
  have hb1 : Below w.heap.size w w1 := by rw [hw1]; exact (Below.refl _ _).alloc (Nat.le_refl _) _
  have HT1 := Lib.hid (show Blk w.heap.size 39 .i64 fr w1 by rw [hw1]; exact heap_alloc_new w _)
  have HB1 := Lib.hid hb1
  have HK1 := Lib.hid (HK.out.below hb1)
  clear hb1 hw1 HK
  go_wp2_with (at_make; refine wpList_make_own _ rfl _ _ 51 rfl w1.heap.size 5 i0 (.int .u8 0) 1 Tryd.underlying51 HY.out HY0.out HY1.out .i64 .i64 560 560 rfl rfl rfl (by rw [HY2.out]; decide) (by unfold maxLen; omega) (Nat.le_refl _) ?_)
  intro w2 ho hgrow
  have hb2 : Below w1.heap.size w1 w2 := (Below.refl w1.heap.size w1).grown hgrow (Nat.le_refl _) (by intro g hg; cases hg)
  have HO := Lib.hid (show OwnN w1.heap.size 5 .u8 (.slice (some ⟨w1.heap.size, 0, none⟩) 0 560) [] w2 from ho)
  have HB2 := Lib.hid hb2
  have HT2 := Lib.hid (HT1.out.below hb2)
  have HIT := Lib.hid (show (Tryd.prog.info? 39).map (·.size) = some fr.length by rw [HT.out]; exact Tryd.infoDg)
  clear ho hgrow hb2
  go_wp2_with (refine wpList_load_nums rfl 39 _ rfl w.heap.size .i64 _ 39 _ rfl HT2.out Tryd.underlying39 rfl HIT.out ?_)
  go_loopw [7, 13] (fun v n wq => ∃ k : Nat, k ≤ 35 ∧ n = .int .i64 k ∧ OwnN w1.heap.size 5 .u8 v (rowN (fromF sig i fr) k) wq ∧ Below w1.heap.size w1 wq) (fun _ n _ => 35 - (intOf n).toNat)
  case atStart => exact ⟨0, by omega, rfl, HO.out, HB2.out⟩
  case round =>
    clear HO HB2 HT2
    obtain ⟨k, hk, rfl, ho, hb⟩ := hrel
    obtain ⟨ao, cp, rfl⟩ := ho.form
    have HO := Lib.hid ho
    have HB := Lib.hid hb
    have HW := Lib.hid hb.size
    have HKr := Lib.hid (HK1.out.below hb)
    clear ho hb
    by_cases hlk : k < 35
    · have hix := fun w => run_index_nums (P := Tryd.prog) 39 3 35 .i64 fr k w Tryd.underlying39 HT.out Tryd.sizeOf3 Tryd.isAgg3 hlk
      have hx := getD_lt LT.out (by decide) k
      have HF := Lib.hid (show fromF sig i fr k = walkI (byteNs (part sig k)) (placeB i k) (fr.getD k 0 : Nat) 15 from rfl)
      generalize fr.getD k 0 = y at hix hx HF
      go_upto_region 6 with (fail)
      obtain ⟨w3, hw3⟩ : ∃ x', x' = wr.alloc (.cells (nums .u8 (List.replicate 16 0)).toArray 24) := ⟨_, rfl⟩
      change Code.wp _ _ _ _ (wr.alloc (.cells (nums .u8 (List.replicate 16 0)).toArray 24))
      rw [← hw3]
      have hb3 : Below wr.heap.size wr w3 := by rw [hw3]; exact (Below.refl _ _).alloc (Nat.le_refl _) _
      have HX3 := Lib.hid (show Blk wr.heap.size 24 .u8 (List.replicate 16 0) w3 by rw [hw3]; exact heap_alloc_new wr _)
      have HK3 := Lib.hid (HKr.out.below hb3)
      have HO3 := Lib.hid (HO.out.below hb3)
      have HB3 := Lib.hid (HB.out.trans (hb3.mono HB.out.size))
      clear hw3 hb3 HB HKr hix
      have hcut : (⟨sig.toArray⟩ : ByteArray).extract (k * 16) 560 = ⟨(sig.drop (k * 16)).toArray⟩ := by rw [← HS.out]; exact extract_tail sig (k * 16)
      have hsl : (⟨sig.toArray⟩ : ByteArray).size = 560 := by simp [ByteArray.size, HS.out]
      refine wp_region_class_tail (fun w' => SS w3 w') 5 (by kernel_rfl) (by kernel_rfl) (SS.start HK3.out) ?_
      simp only [List.take_succ_cons, List.take_zero, List.drop_succ_cons, List.drop_zero]
      repeat go_big_quiet_step ((intro hs'; rfl))
      refine wpQuiet_nil ?_
      intro w4 hs4
      rw [hcut]
      have HX4 := Lib.hid (HX3.out.below hs4.1)
      have HK4 := Lib.hid hs4.2
      have HO4 := Lib.hid (HO3.out.below hs4.1)
      have HB4 := Lib.hid (HB3.out.trans (hs4.1.mono HB3.out.size))
      have HAP := Lib.hid (show ∀ g, (Value.slice ao (rowN (fromF sig i fr) k).length cp).ownBlock = some g → wr.heap.size ≠ g from fun g hg e => by
        have h1 := (World.ownsRow.lt HO.out g hg).2; omega)
      clear hs4 HX3 HK3 HO3 HB3 hcut hsl HO
      have HPT := Lib.hid (show byteNs ((sig.drop (k * 16)).take (List.replicate 16 0).length) ++ (List.replicate 16 0).drop (sig.drop (k * 16)).length = byteNs (part sig k) by
        have e1 : (List.replicate 16 0).drop (sig.drop (k * 16)).length = ([] : List Nat) := List.drop_of_length_le (by rw [List.length_replicate, List.length_drop, HS.out]; omega)
        rw [e1, List.append_nil, part, Nat.mul_comm 16 k]; rfl)
      have HPL := Lib.hid (partN_len HS.out hlk)
      have HPN := Lib.hid (byteNs_part_lt sig k)
      have HFL := Lib.hid (fromF_len HS.out i fr hlk)
      have HRL := Lib.hid (rowN_len' (k := k) (fun j hj => fromF_len HS.out i fr (j := j) (by omega)))
      have HRN := Lib.hid (show rowN (fromF sig i fr) (k + 1) = rowN (fromF sig i fr) k ++ fromF sig i fr k from rfl)
      generalize fromF sig i fr k = x at *
      generalize rowN (fromF sig i fr) k = R at *
      obtain ⟨s', hs'⟩ : ∃ s', s' = sig.drop (k * 16) := ⟨_, rfl⟩
      rw [← hs'] at HPT ⊢
      clear hs'
      go_wp2_with (refine wpList_copy_bytes rfl _ _ 51 9 rfl 5 Tryd.underlying51 (by kernel_rfl) wr.heap.size 16 16 s' (List.replicate 16 0) 24 rfl rfl rfl HX4.out ?_)
      intro w5 hc hb
      have HX5 := Lib.hid (show Blk wr.heap.size 24 .u8 (byteNs (part sig k)) w5 by
        have h : Blk wr.heap.size 24 .u8 (byteNs (s'.take (List.replicate 16 0).length) ++ (List.replicate 16 0).drop s'.length) w5 := hc.out
        rw [HPT.out] at h
        exact h)
      have HO5 := Lib.hid (HO4.out.but hb.out HAP.out)
      have HK5 := Lib.hid (HK4.out.but hb.out (by have := HK1.out.lt; have := HW.out; omega))
      have HB5 := Lib.hid (show Below w1.heap.size w1 w5 from But.toBelow HB4.out hb.out HW.out HB4.out.size)
      clear hc hb HX4 HO4 HK4 HB4 HPT
      generalize byteNs (part sig k) = P at *
      have HIP := Lib.hid (show (Tryd.prog.info? 24).map (·.size) = some P.length by rw [HPL.out]; exact Tryd.infoE)
      go_wp2_with (refine wpList_load_nums rfl 24 _ rfl wr.heap.size .u8 _ 24 _ rfl HX5.out Tryd.underlying24 rfl HIP.out ?_)
      refine (dev_walk P i k y 15 _ HPL.out HPN.out HI0.out HI1.out (by omega) (by omega) (by omega) (by omega) (by omega) (by omega) HK5.out).mono ?_
      rintro e w6 ⟨rfl, hb6⟩
      rw [← HF.out]
      have HX6 := Lib.hid (HX5.out.below hb6)
      have HO6 := Lib.hid (HO5.out.below hb6)
      have HB6 := Lib.hid (HB5.out.trans (hb6.mono HB5.out.size))
      clear hb6 HX5 HO5 HK5 HB5 HF
      have HI := Lib.hid (show (Tryd.prog.info? 24).map (·.size) = some x.length by rw [HFL.out]; exact Tryd.infoE)
      have HL2 := Lib.hid (show P.length = x.length by rw [HFL.out, HPL.out])
      go_wp2_with (refine wpList_store_nums rfl 24 _ _ rfl rfl wr.heap.size .u8 _ x 24 rfl rfl HX6.out HI.out HL2.out ?_)
      intro w7 hc hb
      have HX7 := Lib.hid (show Blk wr.heap.size 24 .u8 x w7 from hc.out)
      have HB7 := Lib.hid (show Below w1.heap.size w1 w7 from But.toBelow HB6.out hb.out HW.out HB6.out.size)
      have HO7 := Lib.hid (HO6.out.but hb.out HAP.out)
      have HLA := Lib.hid (show R.length + x.length ≤ maxLen by rw [HRL.out, HFL.out]; unfold maxLen; omega)
      have HLB := Lib.hid (show (R.length + x.length) * 1 ≤ 140737488355328 by rw [HRL.out, HFL.out]; omega)
      clear hc hb HX6 HB6 HO6 HI HL2
      go_wp2_with (refine wpList_append_nums rfl (.tmp 29) (.tmp 30) 51 5 rfl w1.heap.size .u8 1 Tryd.underlying51 Tryd.infoByte4 (.slice ao R.length cp) R x ⟨wr.heap.size, 0, none⟩ 16 16 HFL.out.symm rfl HO7.out rfl (blk_news HX7.out) HLA.out HLB.out HB7.out.size ?_)
      intro v8 w8 ho8 hb8
      have HB8 := Lib.hid (show Below w1.heap.size w1 w8 from HB7.out.trans hb8.out)
      clear hb8
      go_wp2_with fail
      exact ⟨⟨k + 1, by omega, by go_num, by rw [HRN.out]; exact ho8.out, HB8.out⟩, by simp [intOf]; omega⟩
    · obtain rfl : k = 35 := by omega
      have hconv := conv_row (rowN (fromF sig i fr) 35) rfl (by rw [rowN_len' (k := 35) (fun j hj => fromF_len HS.out i fr hj)]; decide) (rowN_lt (fromF_lt sig i fr) 35) HO.out
      rw [txt_rowN] at hconv
      have HBr := Lib.hid (HB1.out.trans (HB.out.mono HB1.out.size))
      clear HO HB HKr
      go_wp2_with fail
      go_ret
      exact ⟨rfl, HBr.out⟩
end Go.Proofs.YtlgmlnhjanjplaaDoor
