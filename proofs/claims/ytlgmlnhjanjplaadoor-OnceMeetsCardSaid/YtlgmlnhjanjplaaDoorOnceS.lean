/-
  A place's secret and an index's public key, the developers' and the document's.
-/
import Derived.Test.YtlgmlnhjanjplaaDoorOnceM
namespace Go.Proofs.YtlgmlnhjanjplaaDoor
open Go.RowKit Go.BigFrame

/-- A struct's block and an array's are new. -/
theorem cells_nums_new (w : World) (a : Array Value) (t : TypeId) (k : IntKind) (l : List Nat) (u : TypeId) : Cells w.heap.size t a ((w.alloc (.cells a t)).alloc (.cells (nums k l).toArray u)) ∧
    Blk (w.heap.size + 1) u k l ((w.alloc (.cells a t)).alloc (.cells (nums k l).toArray u)) ∧ Below w.heap.size w ((w.alloc (.cells a t)).alloc (.cells (nums k l).toArray u)) := by
  have h1 : Cells w.heap.size t a (w.alloc (.cells a t)) := heap_alloc_new w _
  have h2 : Blk (w.heap.size + 1) u k l ((w.alloc (.cells a t)).alloc (.cells (nums k l).toArray u)) := by
    have h := heap_alloc_new (w.alloc (.cells a t)) (.cells (nums k l).toArray u)
    rw [World.size_alloc] at h
    exact h
  exact ⟨h1.alloc _, h2, ((Below.refl _ w).alloc (Nat.le_refl _) _).alloc (by simp) _⟩

set_option maxHeartbeats 4000000 in
set_option maxRecDepth 100000 in
theorem dev_secret (seed : List UInt8) (i c : Int) (w : World) (hs : seed.length ≤ 4000) (hi0 : -9223372036854775808 ≤ i) (hi : i ≤ 9223372036854775807) (hc0 : -9223372036854775808 ≤ c) (hc : c ≤ 9223372036854775807) (hk : KAt w) :
    Calls Tryd.prog 9 #[.string ⟨seed.toArray⟩, .agg #[.int .i64 i, .int .i64 c]] w fun e w' => e = .returned (.agg (nums .u8 (secN seed i c)).toArray) ∧ Below w.heap.size w w' := by
  have HS := Lib.hid hs
  have HK := Lib.hid hk
  clear hs hk
  go_enter Tryd.func9, Tryd.ntmps9
  go_upto_region 1 with (fail)
  change Code.wp _ _ _ _ ((w.alloc (.cells #[.int .i64 i, .int .i64 c] 27)).alloc (.cells (nums .u8 (List.replicate 16 0)).toArray 24))
  obtain ⟨w1, hw1⟩ : ∃ x', x' = (w.alloc (.cells #[.int .i64 i, .int .i64 c] 27)).alloc (.cells (nums .u8 (List.replicate 16 0)).toArray 24) := ⟨_, rfl⟩
  rw [← hw1]
  have h3 : Cells w.heap.size 27 #[.int .i64 i, .int .i64 c] w1 ∧ Blk (w.heap.size + 1) 24 .u8 (List.replicate 16 0) w1 ∧ Below w.heap.size w w1 := by rw [hw1]; exact cells_nums_new w _ _ _ _ _
  obtain ⟨hx1, hr1, hb1⟩ := h3
  have HI := Lib.hid (show w1.cell? ⟨w.heap.size, 0, none⟩ = some (.int .i64 i) by rw [Lib.cell_of_heap hx1]; rfl)
  have HC := Lib.hid (show w1.cell? ⟨w.heap.size, 1, none⟩ = some (.int .i64 c) by rw [Lib.cell_of_heap hx1]; rfl)
  have HG := Lib.hid hx1.lt
  have HR1 := Lib.hid hr1
  have HB1 := Lib.hid hb1
  have HK1 := Lib.hid (HK.out.below hb1)
  clear hx1 hr1 hb1 hw1 HK
  refine wp_region_class_tail (fun w' => SS w1 w') 7 (by kernel_rfl) (by kernel_rfl) (SS.start HK1.out) ?_
  simp only [List.take_succ_cons, List.take_zero, List.drop_succ_cons, List.drop_zero]
  repeat (first
    | (go_big_quiet_want; refine quiet_load_cell 3 _ rfl ⟨w.heap.size, 0, none⟩ _ rfl (fun w' h => (h.1.cell (p := ⟨w.heap.size, 0, none⟩) HG.out).trans HI.out) Tryd.isAgg3 ?_; go_big_quiet_on; simp only [Act.put, List.setIfInBounds_toArray, List.set_cons_zero, List.set_cons_succ])
    | (go_big_quiet_want; refine quiet_load_cell 3 _ rfl ⟨w.heap.size, 1, none⟩ _ rfl (fun w' h => (h.1.cell (p := ⟨w.heap.size, 1, none⟩) HG.out).trans HC.out) Tryd.isAgg3 ?_; go_big_quiet_on; simp only [Act.put, List.setIfInBounds_toArray, List.set_cons_zero, List.set_cons_succ])
    | go_big_quiet_step ((intro hs'; first
        | rfl
        | (go_at_call_of 21 (Value.int .i64 i); exact (num_int i _ hi0 hi).mono fun e w' h => ⟨h.1, hs'.next h.2⟩)
        | (go_at_call_of 21 (Value.int .i64 c); exact (num_int c _ hc0 hc).mono fun e w' h => ⟨h.1, hs'.next h.2⟩))))
  refine wpQuiet_nil ?_
  intro w2 hs2
  have HR2 := Lib.hid (HR1.out.below hs2.1)
  have HB2 := Lib.hid (HB1.out.trans (hs2.1.mono HB1.out.size))
  have HK2 := Lib.hid hs2.2
  clear hs2 HR1 HB1 HK1 HI HC HG
  have h1 := numB_length_9 (n := i.toNat) (by omega)
  have h2 := numB_length_9 (n := c.toNat) (by omega)
  have HP := Lib.hid (parts4_small (p := [107]) (a := seed) (b := numB i.toNat) (c := numB c.toNat) (by decide) HS.out (by omega) (by omega))
  clear h1 h2
  go_wp2_with fail
  refine (dev_sum [107] (some ⟨w2.heap.size, 0, none⟩) 3 [seed, numB i.toNat, numB c.toNat] _ (at_three w2 _ _ _) (fun h => by cases h) (by simp) HP.out (HK2.out.below ((Below.refl _ _).alloc (Nat.le_refl _) _))).mono ?_
  rintro e w3 ⟨rfl, hb3⟩
  have hb : Below w2.heap.size w2 w3 := ((Below.refl _ w2).alloc (Nat.le_refl _) _).trans (hb3.mono (by simp))
  have HR3 := Lib.hid (HR2.out.below hb)
  have HB3 := Lib.hid (HB2.out.trans (hb.mono HB2.out.size))
  clear hb hb3 HR2 HB2 HK2
  go_wp2_with fail
  refine (dev_cut _ w3 (shaN_len _)).mono ?_
  rintro e w4 ⟨rfl, hb4⟩
  have HR4 := Lib.hid (HR3.out.below hb4)
  have HB4 := Lib.hid (HB3.out.trans (hb4.mono HB3.out.size))
  clear hb4 HR3 HB3
  rw [show (shaN (listB [[107], seed, numB i.toNat, numB c.toNat])).take 16 = secN seed i c from rfl]
  have HI := Lib.hid (show (Tryd.prog.info? 24).map (·.size) = some (secN seed i c).length by rw [secN_len]; exact Tryd.infoE)
  have HL2 := Lib.hid (show (List.replicate 16 0).length = (secN seed i c).length by rw [secN_len]; rfl)
  go_wp2_with (refine wpList_store_nums rfl 24 _ _ rfl rfl (w.heap.size + 1) .u8 _ (secN seed i c) 24 rfl rfl HR4.out HI.out HL2.out ?_)
  intro w7 hc' hb'
  have HC7 := Lib.hid (show Blk (w.heap.size + 1) 24 .u8 (secN seed i c) w7 from hc'.out)
  have HB7 := Lib.hid (show Below w.heap.size w w7 from But.toBelow HB4.out hb'.out (by omega) HB4.out.size)
  clear hc' hb'
  go_wp2_with fail
  exact bodyPost_ret (results_nums rfl _ _ (w.heap.size + 1) .u8 _ 24 _ rfl HC7.out Tryd.underlying24 rfl HI.out) rfl ⟨rfl, HB7.out⟩

set_option maxHeartbeats 4000000 in
set_option maxRecDepth 100000 in
theorem dev_key (s : List UInt8) (i : Int) (w : World) (hs : s.length ≤ 4000) (hi0 : -9223372036854775808 ≤ i) (hi : i ≤ 9223372036854775807) (hk : KAt w) :
    Calls Tryd.prog 25 #[.string ⟨s.toArray⟩, .int .i64 i] w fun e w' => e = .returned (.agg (nums .u8 (keyN s i)).toArray) ∧ Below w.heap.size w w' := by
  have HS := Lib.hid hs
  have HK := Lib.hid hk
  clear hs hk
  go_enter Tryd.func25, Tryd.ntmps25
  go_upto_region 1 with (fail)
  change Code.wp _ _ _ _ (w.alloc (.cells (nums .u8 (List.replicate 16 0)).toArray 24))
  obtain ⟨w1, hw1⟩ : ∃ x', x' = w.alloc (.cells (nums .u8 (List.replicate 16 0)).toArray 24) := ⟨_, rfl⟩
  rw [← hw1]
  have hb1 : Below w.heap.size w w1 := by rw [hw1]; exact (Below.refl _ _).alloc (Nat.le_refl _) _
  have HR1 := Lib.hid (show Blk w.heap.size 24 .u8 (List.replicate 16 0) w1 by rw [hw1]; exact heap_alloc_new w _)
  have HB1 := Lib.hid hb1
  have HK1 := Lib.hid (HK.out.below hb1)
  have h1 := numB_length_9 (n := i.toNat) (by omega)
  have HP := Lib.hid (parts3_of (p := [108]) (a := s) (b := numB i.toNat) (by decide) HS.out (by omega))
  clear hb1 hw1 HK h1
  go_wp2_with fail
  refine (num_int i _ hi0 hi).mono ?_
  rintro e w2 ⟨rfl, hb2⟩
  have HR2 := Lib.hid (HR1.out.below hb2)
  have HB2 := Lib.hid (HB1.out.trans (hb2.mono HB1.out.size))
  have HK2 := Lib.hid (HK1.out.below hb2)
  clear hb2 HR1 HB1 HK1
  go_wp2_with fail
  refine (dev_sum [108] (some ⟨w2.heap.size, 0, none⟩) 2 [s, numB i.toNat] _ (at_2 w2 _ _) (fun h => by cases h) (by simp) HP.out (HK2.out.below ((Below.refl _ _).alloc (Nat.le_refl _) _))).mono ?_
  rintro e w3 ⟨rfl, hb3⟩
  have hb : Below w2.heap.size w2 w3 := ((Below.refl _ w2).alloc (Nat.le_refl _) _).trans (hb3.mono (by simp))
  have HR3 := Lib.hid (HR2.out.below hb)
  have HB3 := Lib.hid (HB2.out.trans (hb.mono HB2.out.size))
  clear hb hb3 HR2 HB2 HK2
  go_wp2_with fail
  refine (dev_cut _ w3 (shaN_len _)).mono ?_
  rintro e w4 ⟨rfl, hb4⟩
  have HR4 := Lib.hid (HR3.out.below hb4)
  have HB4 := Lib.hid (HB3.out.trans (hb4.mono HB3.out.size))
  clear hb4 HR3 HB3
  rw [show (shaN (listB [[108], s, numB i.toNat])).take 16 = keyN s i from rfl]
  have HI := Lib.hid (show (Tryd.prog.info? 24).map (·.size) = some (keyN s i).length by rw [keyN_len]; exact Tryd.infoE)
  have HL2 := Lib.hid (show (List.replicate 16 0).length = (keyN s i).length by rw [keyN_len]; rfl)
  go_wp2_with (refine wpList_store_nums rfl 24 _ _ rfl rfl w.heap.size .u8 _ (keyN s i) 24 rfl rfl HR4.out HI.out HL2.out ?_)
  intro w7 hc' hb'
  have HC7 := Lib.hid (show Blk w.heap.size 24 .u8 (keyN s i) w7 from hc'.out)
  have HB7 := Lib.hid (show Below w.heap.size w w7 from But.toBelow HB4.out hb'.out (by omega) HB4.out.size)
  clear hc' hb'
  go_wp2_with fail
  exact bodyPost_ret (results_nums rfl _ _ w.heap.size .u8 _ 24 _ rfl HC7.out Tryd.underlying24 rfl HI.out) rfl ⟨rfl, HB7.out⟩

set_option maxHeartbeats 4000000 in
theorem ref_num4 (i : Int) (w : World) (hi0 : -9223372036854775808 ≤ i) (hi : i ≤ 9223372036854775807) :
    Calls Tryd.prog 24 #[.int .i64 i] w fun e w' => e = .returned (.string ⟨(numB i.toNat).toArray⟩) ∧ Below w.heap.size w w' := by
  go_enter Tryd.func24, Tryd.ntmps24
  by_cases hn : i < 0
  · go_wp2_with fail
    refine (rnumref_any 0 _ (by decide)).mono ?_
    rintro e w1 ⟨rfl, hb1⟩
    rw [show numB 0 = numB i.toNat by rw [show i.toNat = 0 by omega]]
    have HB1 := Lib.hid hb1
    clear hb1
    go_wp2_with fail
    go_ret
    exact ⟨rfl, HB1.out⟩
  · obtain ⟨n, rfl⟩ : ∃ n : Nat, i = n := ⟨i.toNat, by omega⟩
    go_wp2_with fail
    refine (rnumref_any n _ (by omega)).mono ?_
    rintro e w1 ⟨rfl, hb1⟩
    have HB1 := Lib.hid hb1
    clear hb1
    go_wp2_with fail
    go_ret
    exact ⟨by rw [Int.toNat_natCast]; rfl, HB1.out⟩

set_option maxHeartbeats 4000000 in
set_option maxRecDepth 100000 in
theorem ref_secret (seed : List UInt8) (i c : Int) (w : World) (hs : seed.length ≤ 4000) (hi0 : -9223372036854775808 ≤ i) (hi : i ≤ 9223372036854775807) (hc0 : -9223372036854775808 ≤ c) (hc : c ≤ 9223372036854775807) :
    Calls Tryd.prog 10 #[.string ⟨seed.toArray⟩, .int .i64 i, .int .i64 c] w fun e w' => e = .returned (.agg (nums .u8 (secN seed i c)).toArray) ∧ Below w.heap.size w w' := by
  have HS := Lib.hid hs
  clear hs
  go_enter Tryd.func10, Tryd.ntmps10
  go_upto_region 1 with (fail)
  change Code.wp _ _ _ _ (w.alloc (.cells (nums .u8 (List.replicate 16 0)).toArray 24))
  obtain ⟨w1, hw1⟩ : ∃ x', x' = w.alloc (.cells (nums .u8 (List.replicate 16 0)).toArray 24) := ⟨_, rfl⟩
  rw [← hw1]
  have HB1 := Lib.hid (show Below w.heap.size w w1 by rw [hw1]; exact (Below.refl _ _).alloc (Nat.le_refl _) _)
  have HR1 := Lib.hid (show Blk w.heap.size 24 .u8 (List.replicate 16 0) w1 by rw [hw1]; exact heap_alloc_new w _)
  have h1 := numB_length_9 (n := i.toNat) (by omega)
  have h2 := numB_length_9 (n := c.toNat) (by omega)
  have HP := Lib.hid (parts4_small (p := [107]) (a := seed) (b := numB i.toNat) (c := numB c.toNat) (by decide) HS.out (by omega) (by omega))
  clear hw1 h1 h2
  go_wp2_with fail
  refine (ref_num4 i _ hi0 hi).mono ?_
  rintro e w2 ⟨rfl, hb2⟩
  have HR2 := Lib.hid (HR1.out.below hb2)
  have HB2 := Lib.hid (HB1.out.trans (hb2.mono HB1.out.size))
  clear hb2 HR1 HB1
  go_wp2_with fail
  refine (ref_num4 c _ hc0 hc).mono ?_
  rintro e w2' ⟨rfl, hb2⟩
  have HR2' := Lib.hid (HR2.out.below hb2)
  have HB2' := Lib.hid (HB2.out.trans (hb2.mono HB2.out.size))
  clear hb2 HR2 HB2
  go_wp2_with fail
  refine (ref_sum [107] (some ⟨w2'.heap.size, 0, none⟩) 3 [seed, numB i.toNat, numB c.toNat] _ (at_three w2' _ _ _) (fun h => by cases h) (by simp) HP.out).mono ?_
  rintro e w3 ⟨rfl, hb3⟩
  have hb : Below w2'.heap.size w2' w3 := ((Below.refl _ w2').alloc (Nat.le_refl _) _).trans (hb3.mono (by simp))
  have HR3 := Lib.hid (HR2'.out.below hb)
  have HB3 := Lib.hid (HB2'.out.trans (hb.mono HB2'.out.size))
  clear hb hb3 HR2' HB2'
  go_wp2_with fail
  refine (ref_cut _ w3 (shaN_len _)).mono ?_
  rintro e w4 ⟨rfl, hb4⟩
  have HR4 := Lib.hid (HR3.out.below hb4)
  have HB4 := Lib.hid (HB3.out.trans (hb4.mono HB3.out.size))
  clear hb4 HR3 HB3
  rw [show (shaN (listB [[107], seed, numB i.toNat, numB c.toNat])).take 16 = secN seed i c from rfl]
  have HI := Lib.hid (show (Tryd.prog.info? 24).map (·.size) = some (secN seed i c).length by rw [secN_len]; exact Tryd.infoE)
  have HL2 := Lib.hid (show (List.replicate 16 0).length = (secN seed i c).length by rw [secN_len]; rfl)
  go_wp2_with (refine wpList_store_nums rfl 24 _ _ rfl rfl w.heap.size .u8 _ (secN seed i c) 24 rfl rfl HR4.out HI.out HL2.out ?_)
  intro w7 hc' hb'
  have HC7 := Lib.hid (show Blk w.heap.size 24 .u8 (secN seed i c) w7 from hc'.out)
  have HB7 := Lib.hid (show Below w.heap.size w w7 from But.toBelow HB4.out hb'.out (by omega) HB4.out.size)
  clear hc' hb'
  go_wp2_with fail
  exact bodyPost_ret (results_nums rfl _ _ w.heap.size .u8 _ 24 _ rfl HC7.out Tryd.underlying24 rfl HI.out) rfl ⟨rfl, HB7.out⟩

set_option maxHeartbeats 4000000 in
set_option maxRecDepth 100000 in
theorem ref_of4 (s : List UInt8) (i : Int) (w : World) (hs : s.length ≤ 4000) (hi0 : -9223372036854775808 ≤ i) (hi : i ≤ 9223372036854775807) :
    Calls Tryd.prog 28 #[.string ⟨s.toArray⟩, .int .i64 i] w fun e w' => e = .returned (.agg (nums .u8 (keyN s i)).toArray) ∧ Below w.heap.size w w' := by
  have HS := Lib.hid hs
  clear hs
  go_enter Tryd.func28, Tryd.ntmps28
  go_upto_region 1 with (fail)
  change Code.wp _ _ _ _ (w.alloc (.cells (nums .u8 (List.replicate 16 0)).toArray 24))
  obtain ⟨w1, hw1⟩ : ∃ x', x' = w.alloc (.cells (nums .u8 (List.replicate 16 0)).toArray 24) := ⟨_, rfl⟩
  rw [← hw1]
  have HB1 := Lib.hid (show Below w.heap.size w w1 by rw [hw1]; exact (Below.refl _ _).alloc (Nat.le_refl _) _)
  have HR1 := Lib.hid (show Blk w.heap.size 24 .u8 (List.replicate 16 0) w1 by rw [hw1]; exact heap_alloc_new w _)
  have h1 := numB_length_9 (n := i.toNat) (by omega)
  have HP := Lib.hid (parts3_of (p := [108]) (a := s) (b := numB i.toNat) (by decide) HS.out (by omega))
  clear hw1 h1
  go_wp2_with fail
  refine (ref_num4 i _ hi0 hi).mono ?_
  rintro e w2 ⟨rfl, hb2⟩
  have HR2 := Lib.hid (HR1.out.below hb2)
  have HB2 := Lib.hid (HB1.out.trans (hb2.mono HB1.out.size))
  clear hb2 HR1 HB1
  go_wp2_with fail
  refine (ref_sum [108] (some ⟨w2.heap.size, 0, none⟩) 2 [s, numB i.toNat] _ (at_2 w2 _ _) (fun h => by cases h) (by simp) HP.out).mono ?_
  rintro e w3 ⟨rfl, hb3⟩
  have hb : Below w2.heap.size w2 w3 := ((Below.refl _ w2).alloc (Nat.le_refl _) _).trans (hb3.mono (by simp))
  have HR3 := Lib.hid (HR2.out.below hb)
  have HB3 := Lib.hid (HB2.out.trans (hb.mono HB2.out.size))
  clear hb hb3 HR2 HB2
  go_wp2_with fail
  refine (ref_cut _ w3 (shaN_len _)).mono ?_
  rintro e w4 ⟨rfl, hb4⟩
  have HR4 := Lib.hid (HR3.out.below hb4)
  have HB4 := Lib.hid (HB3.out.trans (hb4.mono HB3.out.size))
  clear hb4 HR3 HB3
  rw [show (shaN (listB [[108], s, numB i.toNat])).take 16 = keyN s i from rfl]
  have HI := Lib.hid (show (Tryd.prog.info? 24).map (·.size) = some (keyN s i).length by rw [keyN_len]; exact Tryd.infoE)
  have HL2 := Lib.hid (show (List.replicate 16 0).length = (keyN s i).length by rw [keyN_len]; rfl)
  go_wp2_with (refine wpList_store_nums rfl 24 _ _ rfl rfl w.heap.size .u8 _ (keyN s i) 24 rfl rfl HR4.out HI.out HL2.out ?_)
  intro w7 hc' hb'
  have HC7 := Lib.hid (show Blk w.heap.size 24 .u8 (keyN s i) w7 from hc'.out)
  have HB7 := Lib.hid (show Below w.heap.size w w7 from But.toBelow HB4.out hb'.out (by omega) HB4.out.size)
  clear hc' hb'
  go_wp2_with fail
  exact bodyPost_ret (results_nums rfl _ _ w.heap.size .u8 _ 24 _ rfl HC7.out Tryd.underlying24 rfl HI.out) rfl ⟨rfl, HB7.out⟩
end Go.Proofs.YtlgmlnhjanjplaaDoor
