/-
  A place's encoding and the next step, the developers'.
-/
import Derived.Test.YtjgjgmjdoihmiaaDoorStepsM
namespace Go.Proofs.YtjgjgmjdoihmiaaDoor
open Go.RowKit Go.BigFrame

set_option maxHeartbeats 4000000 in
set_option maxRecDepth 100000 in
theorem dev_encode (i c : Int) (w : World) (hi0 : -9223372036854775808 ≤ i) (hi : i ≤ 9223372036854775807) (hc0 : -9223372036854775808 ≤ c) (hc : c ≤ 9223372036854775807) :
    Calls Tryd.prog 14 #[.agg #[.int .i64 i, .int .i64 c]] w fun e w' => e = .returned (.string ⟨(placeB i c).toArray⟩) ∧ Below w.heap.size w w' := by
  go_enter Tryd.func14, Tryd.ntmps14
  go_upto_region 1 with (fail)
  obtain ⟨w1, hw1⟩ : ∃ x, x = w.alloc (.cells #[.int .i64 i, .int .i64 c] 27) := ⟨_, rfl⟩
  rw [← hw1]
  have hb : Below w.heap.size w w1 := by rw [hw1]; exact (Below.refl _ _).alloc (Nat.le_refl _) _
  have hg : w1.heap[w.heap.size]? = some (.cells #[.int .i64 i, .int .i64 c] 27 (0, 0)) := by rw [hw1]; exact heap_alloc_new w _
  have HI := Lib.hid (show w1.cell? ⟨w.heap.size, 0, none⟩ = some (.int .i64 i) by rw [Lib.cell_of_heap hg]; rfl)
  have HC := Lib.hid (show w1.cell? ⟨w.heap.size, 1, none⟩ = some (.int .i64 c) by rw [Lib.cell_of_heap hg]; rfl)
  have HB := Lib.hid hb
  have HG := Lib.hid (lt_of_block hg)
  clear hw1 hb hg
  have hcat := cat2 (numB i.toNat) (numB c.toNat)
  have q1 := numB_length_9 (n := i.toNat) (by omega)
  have q2 := numB_length_9 (n := c.toNat) (by omega)
  refine wp_region_class_tail (fun w' => Below w1.heap.size w1 w') 6 (by kernel_rfl) (by kernel_rfl) (Below.refl _ _).drew ?_
  simp only [List.take_succ_cons, List.take_zero, List.drop_succ_cons, List.drop_zero]
  repeat (first
    | (go_big_quiet_want; refine quiet_load_cell 3 _ rfl ⟨w.heap.size, 0, none⟩ _ rfl (fun w' h => (h.cell (p := ⟨w.heap.size, 0, none⟩) HG.out).trans HI.out) Tryd.isAgg3 ?_; go_big_quiet_on; simp only [Act.put, List.setIfInBounds_toArray, List.set_cons_zero, List.set_cons_succ])
    | (go_big_quiet_want; refine quiet_load_cell 3 _ rfl ⟨w.heap.size, 1, none⟩ _ rfl (fun w' h => (h.cell (p := ⟨w.heap.size, 1, none⟩) HG.out).trans HC.out) Tryd.isAgg3 ?_; go_big_quiet_on; simp only [Act.put, List.setIfInBounds_toArray, List.set_cons_zero, List.set_cons_succ])
    | go_big_quiet_step ((intro hs; first
        | rfl
        | (go_at_call_of 19 (Value.int .i64 i); exact (num_int i _ hi0 hi).mono fun e w' h => ⟨h.1, hs.trans (h.2.mono hs.size)⟩)
        | (go_at_call_of 19 (Value.int .i64 c); exact (num_int c _ hc0 hc).mono fun e w' h => ⟨h.1, hs.trans (h.2.mono hs.size)⟩))))
  refine wpQuiet_nil ?_
  intro w2 hs
  have HS := Lib.hid hs
  clear hs
  go_wp2_with fail
  go_ret
  exact ⟨rfl, HB.out.trans (HS.out.mono HB.out.size)⟩

/-- Two blocks are new. -/
theorem two_new (w : World) (l m : List Nat) (t u : TypeId) : Blk w.heap.size t .u8 l ((w.alloc (.cells (nums .u8 l).toArray t)).alloc (.cells (nums .u8 m).toArray u)) ∧
    Blk (w.heap.size + 1) u .u8 m ((w.alloc (.cells (nums .u8 l).toArray t)).alloc (.cells (nums .u8 m).toArray u)) ∧ Below w.heap.size w ((w.alloc (.cells (nums .u8 l).toArray t)).alloc (.cells (nums .u8 m).toArray u)) := by
  have h1 : Blk w.heap.size t .u8 l (w.alloc (.cells (nums .u8 l).toArray t)) := heap_alloc_new w _
  have h2 : Blk (w.heap.size + 1) u .u8 m ((w.alloc (.cells (nums .u8 l).toArray t)).alloc (.cells (nums .u8 m).toArray u)) := by
    have h := heap_alloc_new (w.alloc (.cells (nums .u8 l).toArray t)) (.cells (nums .u8 m).toArray u)
    rw [World.size_alloc] at h
    exact h
  exact ⟨h1.alloc _, h2, ((Below.refl _ w).alloc (Nat.le_refl _) _).alloc (by simp) _⟩

set_option maxHeartbeats 4000000 in
set_option maxRecDepth 100000 in
theorem dev_next (x : List Nat) (s : Int) (pl : List UInt8) (w : World) (hx : x.length = 16) (hl : ∀ y ∈ x, y < 256) (hs0 : -9223372036854775808 ≤ s) (hs : s ≤ 9223372036854775807) (hp : pl.length ≤ 18) (hk : KAt w) :
    Calls Tryd.prog 15 #[.agg (nums .u8 x).toArray, .int .i64 s, .string ⟨pl.toArray⟩] w fun e w' => e = .returned (.agg (nums .u8 (nextN x s.toNat pl)).toArray) ∧ Below w.heap.size w w' := by
  have HX := Lib.hid hx
  have HL := Lib.hid hl
  have HK := Lib.hid hk
  clear hx hl hk
  go_enter Tryd.func15, Tryd.ntmps15
  go_upto_region 1 with (fail)
  change Code.wp _ _ _ _ ((w.alloc (.cells (nums .u8 x).toArray 24)).alloc (.cells (nums .u8 (List.replicate 16 0)).toArray 24))
  obtain ⟨w1, hw1⟩ : ∃ x', x' = (w.alloc (.cells (nums .u8 x).toArray 24)).alloc (.cells (nums .u8 (List.replicate 16 0)).toArray 24) := ⟨_, rfl⟩
  rw [← hw1]
  have h3 : Blk w.heap.size 24 .u8 x w1 ∧ Blk (w.heap.size + 1) 24 .u8 (List.replicate 16 0) w1 ∧ Below w.heap.size w w1 := by rw [hw1]; exact two_new w _ _ _ _
  obtain ⟨hx1, hr1, hb1⟩ := h3
  have HX1 := Lib.hid hx1
  have HR1 := Lib.hid hr1
  have HB1 := Lib.hid hb1
  have HK1 := Lib.hid (HK.out.below hb1)
  clear hx1 hr1 hb1 hw1 HK
  have HLX := Lib.hid (txt_len x)
  refine wp_region_class_tail (fun w' => SS w1 w') 5 (by kernel_rfl) (by kernel_rfl) (SS.start HK1.out) ?_
  simp only [List.take_succ_cons, List.take_zero, List.drop_succ_cons, List.drop_zero]
  repeat (first
    | (go_big_quiet_want; refine quiet_conv_nums 45 9 5 _ rfl w.heap.size 16 x 24 (by rw [HX.out]; rfl) HL.out (fun w' h => HX1.out.below h.1) Tryd.underlying45 Tryd.underlying5 Tryd.underlying9 ?_; go_big_quiet_on; simp only [Act.put, List.setIfInBounds_toArray, List.set_cons_zero, List.set_cons_succ])
    | go_big_quiet_step ((intro hs'; first
        | rfl
        | (go_at_call 19; exact (num_int s _ hs0 hs).mono fun e w' h => ⟨h.1, hs'.next h.2⟩))))
  refine wpQuiet_nil ?_
  intro w2 hs2
  have HX2 := Lib.hid (HX1.out.below hs2.1)
  have HR2 := Lib.hid (HR1.out.below hs2.1)
  have HB2 := Lib.hid (HB1.out.trans (hs2.1.mono HB1.out.size))
  have HK2 := Lib.hid hs2.2
  have HG2 := Lib.hid (show w.heap.size + 1 < w2.heap.size from HR2.out.lt)
  clear hs2 HX1 HR1 HB1 HK1 HX2
  go_wp2_with fail
  refine (dev_sum [115] (some ⟨w2.heap.size, 0, none⟩) 3 [txt x, numB s.toNat, pl] _ (at_three w2 _ _ _) (fun h => by cases h) (by simp) (parts3_small HX.out (by omega) hp) (HK2.out.below ((Below.refl _ _).alloc (Nat.le_refl _) _))).mono ?_
  rintro e w3 ⟨rfl, hb3⟩
  have hb : Below w2.heap.size w2 w3 := ((Below.refl _ w2).alloc (Nat.le_refl _) _).trans (hb3.mono (by simp))
  have HR3 := Lib.hid (HR2.out.below hb)
  have HB3 := Lib.hid (HB2.out.trans (hb.mono HB2.out.size))
  clear hb hb3 HR2 HB2 HK2 HG2
  go_wp2_with fail
  refine (dev_cut _ w3 (shaN_len _)).mono ?_
  rintro e w4 ⟨rfl, hb4⟩
  have HR4 := Lib.hid (HR3.out.below hb4)
  have HB4 := Lib.hid (HB3.out.trans (hb4.mono HB3.out.size))
  clear hb4 HR3 HB3
  rw [show (shaN (listB [[115], txt x, numB s.toNat, pl])).take 16 = nextN x s.toNat pl from rfl]
  have HN := Lib.hid (nextN_len x s.toNat pl)
  have HI := Lib.hid (show (Tryd.prog.info? 24).map (·.size) = some (nextN x s.toNat pl).length by rw [nextN_len]; exact Tryd.infoE)
  have HL2 := Lib.hid (show (List.replicate 16 0).length = (nextN x s.toNat pl).length by rw [nextN_len]; rfl)
  go_wp2_with (refine wpList_store_nums rfl 24 _ _ rfl rfl (w.heap.size + 1) .u8 _ (nextN x s.toNat pl) 24 rfl rfl HR4.out HI.out HL2.out ?_)
  intro w7 hc hb
  have HC7 := Lib.hid (show Blk (w.heap.size + 1) 24 .u8 (nextN x s.toNat pl) w7 from hc.out)
  have HB7 := Lib.hid (show Below w.heap.size w w7 from But.toBelow HB4.out hb.out (by omega) HB4.out.size)
  clear hc hb
  go_wp2_with fail
  exact bodyPost_ret (results_nums rfl _ _ (w.heap.size + 1) .u8 _ 24 _ rfl HC7.out Tryd.underlying24 rfl HI.out) rfl ⟨rfl, HB7.out⟩
end Go.Proofs.YtjgjgmjdoihmiaaDoor
