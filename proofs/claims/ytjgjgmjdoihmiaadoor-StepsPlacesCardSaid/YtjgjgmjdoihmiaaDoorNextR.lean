/-
  The next step, the document's.
-/
import Derived.Test.YtjgjgmjdoihmiaaDoorNextD
namespace Go.Proofs.YtjgjgmjdoihmiaaDoor
open Go.RowKit Go.BigFrame

set_option maxHeartbeats 4000000 in
set_option maxRecDepth 100000 in
theorem ref_next (x : List Nat) (i c s : Int) (w : World) (hx : x.length = 16) (hl : ∀ y ∈ x, y < 256) (hi0 : -9223372036854775808 ≤ i) (hi : i ≤ 9223372036854775807) (hc0 : -9223372036854775808 ≤ c) (hc : c ≤ 9223372036854775807) (hs0 : 0 ≤ s) (hs : s ≤ 9223372036854775807) :
    Calls Tryd.prog 13 #[.agg (nums .u8 x).toArray, .int .i64 i, .int .i64 c, .int .i64 s] w fun e w' => e = .returned (.agg (nums .u8 (nextN x s.toNat (placeB i c))).toArray) ∧ Below w.heap.size w w' := by
  have HX := Lib.hid hx
  have HL := Lib.hid hl
  clear hx hl
  go_enter Tryd.func13, Tryd.ntmps13
  go_upto_region 1 with (fail)
  change Code.wp _ _ _ _ ((w.alloc (.cells (nums .u8 x).toArray 24)).alloc (.cells (nums .u8 (List.replicate 16 0)).toArray 24))
  obtain ⟨w1, hw1⟩ : ∃ x', x' = (w.alloc (.cells (nums .u8 x).toArray 24)).alloc (.cells (nums .u8 (List.replicate 16 0)).toArray 24) := ⟨_, rfl⟩
  rw [← hw1]
  have h3 : Blk w.heap.size 24 .u8 x w1 ∧ Blk (w.heap.size + 1) 24 .u8 (List.replicate 16 0) w1 ∧ Below w.heap.size w w1 := by rw [hw1]; exact two_new w _ _ _ _
  obtain ⟨hx1, hr1, hb1⟩ := h3
  have HX1 := Lib.hid hx1
  have HR1 := Lib.hid hr1
  have HB1 := Lib.hid hb1
  clear hx1 hr1 hb1 hw1
  obtain ⟨sn, rfl⟩ : ∃ n : Nat, s = n := ⟨s.toNat, by omega⟩
  obtain ⟨ni, hni⟩ : ∃ n : Nat, max i 0 = n := ⟨i.toNat, by omega⟩
  obtain ⟨nc, hnc⟩ : ∃ n : Nat, max c 0 = n := ⟨c.toNat, by omega⟩
  have hin : i.toNat = ni := by omega
  have hcn : c.toNat = nc := by omega
  have hin2 : ni < 9223372036854775808 := by omega
  have hcn2 : nc < 9223372036854775808 := by omega
  have q1 := numB_length_9 hin2
  have q2 := numB_length_9 hcn2
  have HP := Lib.hid (show placeB i c = numB ni ++ numB nc by rw [placeB, hin, hcn])
  have HPL := Lib.hid (placeB_len hi hc)
  clear hin hcn
  have hcat := cat2 (numB ni) (numB nc)
  refine wp_region_class_tail (fun w' => Below w1.heap.size w1 w') 11 (by kernel_rfl) (by kernel_rfl) (Below.refl _ _).drew ?_
  simp only [List.take_succ_cons, List.take_zero, List.drop_succ_cons, List.drop_zero]
  repeat (first
    | (go_big_quiet_want; refine quiet_conv_nums 45 9 5 _ rfl w.heap.size 16 x 24 (by rw [HX.out]; rfl) HL.out (fun w' h => HX1.out.below h) Tryd.underlying45 Tryd.underlying5 Tryd.underlying9 ?_; go_big_quiet_on; simp only [Act.put, List.setIfInBounds_toArray, List.set_cons_zero, List.set_cons_succ])
    | go_big_quiet_step ((intro hs'; first
        | rfl
        | (go_at_call_of 18 (Value.int .i64 (sn : Int)); exact (rnumref_any sn _ (by omega)).mono fun e w' h => ⟨h.1, hs'.trans (h.2.mono hs'.size)⟩)
        | (go_at_call_of 18 (Value.int .i64 (ni : Int)); exact (rnumref_any ni _ hin2).mono fun e w' h => ⟨h.1, hs'.trans (h.2.mono hs'.size)⟩)
        | (go_at_call_of 18 (Value.int .i64 (nc : Int)); exact (rnumref_any nc _ hcn2).mono fun e w' h => ⟨h.1, hs'.trans (h.2.mono hs'.size)⟩))))
  refine wpQuiet_nil ?_
  intro w2 hs2
  rw [← HP.out]
  have HR2 := Lib.hid (HR1.out.below hs2)
  have HB2 := Lib.hid (HB1.out.trans (hs2.mono HB1.out.size))
  have HG2 := Lib.hid (show w.heap.size + 1 < w2.heap.size from HR2.out.lt)
  clear hs2 HX1 HR1 HB1
  go_wp2_with fail
  refine (ref_sum [115] (some ⟨w2.heap.size, 0, none⟩) 3 [txt x, numB sn, placeB i c] _ (at_three w2 _ _ _) (fun h => by cases h) (by simp) (parts3_small HX.out (by omega) HPL.out)).mono ?_
  rintro e w3 ⟨rfl, hb3⟩
  have hb : Below w2.heap.size w2 w3 := ((Below.refl _ w2).alloc (Nat.le_refl _) _).trans (hb3.mono (by simp))
  have HR3 := Lib.hid (HR2.out.below hb)
  have HB3 := Lib.hid (HB2.out.trans (hb.mono HB2.out.size))
  clear hb hb3 HR2 HB2 HG2
  go_wp2_with fail
  refine (ref_cut _ w3 (shaN_len _)).mono ?_
  rintro e w4 ⟨rfl, hb4⟩
  have HR4 := Lib.hid (HR3.out.below hb4)
  have HB4 := Lib.hid (HB3.out.trans (hb4.mono HB3.out.size))
  clear hb4 HR3 HB3
  rw [show (shaN (listB [[115], txt x, numB sn, placeB i c])).take 16 = nextN x sn (placeB i c) from rfl]
  have HI := Lib.hid (show (Tryd.prog.info? 24).map (·.size) = some (nextN x sn (placeB i c)).length by rw [nextN_len]; exact Tryd.infoE)
  have HL2 := Lib.hid (show (List.replicate 16 0).length = (nextN x sn (placeB i c)).length by rw [nextN_len]; rfl)
  go_wp2_with (refine wpList_store_nums rfl 24 _ _ rfl rfl (w.heap.size + 1) .u8 _ (nextN x sn (placeB i c)) 24 rfl rfl HR4.out HI.out HL2.out ?_)
  intro w7 hc hb
  have HC7 := Lib.hid (show Blk (w.heap.size + 1) 24 .u8 (nextN x sn (placeB i c)) w7 from hc.out)
  have HB7 := Lib.hid (show Below w.heap.size w w7 from But.toBelow HB4.out hb.out (by omega) HB4.out.size)
  clear hc hb
  go_wp2_with fail
  exact bodyPost_ret (results_nums rfl _ _ (w.heap.size + 1) .u8 _ 24 _ rfl HC7.out Tryd.underlying24 rfl HI.out) rfl ⟨rfl, HB7.out⟩
end Go.Proofs.YtjgjgmjdoihmiaaDoor
