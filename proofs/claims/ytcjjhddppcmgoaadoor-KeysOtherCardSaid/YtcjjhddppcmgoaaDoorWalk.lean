/-
  Chains: encode, next, Walk, the developers' and the document's.
-/
import Derived.Test.YtcjjhddppcmgoaaDoorRegion
import Derived.Test.YtcjjhddppcmgoaaDoorPacks
/-! Chains and digits, as plain mathematics; places; a step's three parts. -/
namespace Go.Proofs.YtcjjhddppcmgoaaDoor
open Go.RowKit

/-- A place's bytes. -/
def placeB (i c : Int) : List UInt8 := numB i.toNat ++ numB c.toNat
theorem placeB_len {i c : Int} (hi : i ≤ 9223372036854775807) (hc : c ≤ 9223372036854775807) : (placeB i c).length ≤ 18 := by
  have h1 := numB_length_9 (n := i.toNat) (by omega)
  have h2 := numB_length_9 (n := c.toNat) (by omega)
  rw [placeB, List.length_append]
  omega
/-- The next step. -/
def nextN (x : List Nat) (s : Nat) (pl : List UInt8) : List Nat := (shaN (listB [[115], txt x, numB s, pl])).take 16
theorem nextN_len (x : List Nat) (s : Nat) (pl : List UInt8) : (nextN x s pl).length = 16 := by
  rw [nextN, List.length_take, shaN_len]; rfl
theorem nextN_lt (x : List Nat) (s : Nat) (pl : List UInt8) : ∀ y ∈ nextN x s pl, y < 256 := fun y hy => shaN_lt _ y (List.mem_of_mem_take hy)
/-- k steps from the step s. -/
def walkN (x : List Nat) (pl : List UInt8) (s : Nat) : Nat → List Nat
  | 0 => x
  | k + 1 => nextN (walkN x pl s k) (s + k) pl
theorem walkN_len {x : List Nat} (hx : x.length = 16) (pl : List UInt8) (s k : Nat) : (walkN x pl s k).length = 16 := by
  cases k with
  | zero => exact hx
  | succ k => exact nextN_len _ _ _
theorem walkN_lt {x : List Nat} (hx : ∀ y ∈ x, y < 256) (pl : List UInt8) (s k : Nat) : ∀ y ∈ walkN x pl s k, y < 256 := by
  cases k with
  | zero => exact hx
  | succ k => exact nextN_lt _ _ _
theorem walkN_add (x : List Nat) (pl : List UInt8) (s j k : Nat) : walkN (walkN x pl s j) pl (s + j) k = walkN x pl s (j + k) := by
  induction k with
  | zero => rfl
  | succ k ih => rw [← Nat.add_assoc, walkN, walkN, ih, Nat.add_assoc]
/-- What a walk answers. -/
def walkI (x : List Nat) (pl : List UInt8) (a b : Int) : List Nat := walkN x pl (max a 0).toNat ((min b 15).toNat - (max a 0).toNat)

theorem parts3_small {x : List Nat} (hx : x.length = 16) {s : Nat} (hs : s < 9223372036854775808) {pl : List UInt8} (hp : pl.length ≤ 18) : (listB [[115], txt x, numB s, pl]).length ≤ 140737488350000 := by
  have h1 := numB_length_9 hs
  have h2 := numB_length_9 (n := [[115], txt x, numB s, pl].length) (by simp)
  have h3 : (textsB [[115], txt x, numB s, pl]).length ≤ 1000 := by
    have e1 := numB_length_9 (n := (txt x).length) (by rw [txt_len, hx]; decide)
    have e2 := numB_length_9 (n := (numB s).length) (by omega)
    have e3 := numB_length_9 (n := pl.length) (by omega)
    have e4 := numB_length_9 (n := ([115] : List UInt8).length) (by decide)
    simp only [textsB_cons, List.length_append, textB_length, txt_len, hx, List.length_cons, List.length_nil, show textsB [] = [] from rfl] at *
    omega
  rw [listB_length]
  omega

theorem Tryd.infoP : (Tryd.prog.info? 88).map (fun i => i.size) = some 2 := by kernel_rfl
end Go.Proofs.YtcjjhddppcmgoaaDoor

/-! A place's encoding and the next step, the developers'. -/
namespace Go.Proofs.YtcjjhddppcmgoaaDoor
open Go.RowKit Go.BigFrame

set_option maxHeartbeats 4000000 in
set_option maxRecDepth 100000 in
theorem dev_encode (i c : Int) (w : World) (hi0 : -9223372036854775808 ≤ i) (hi : i ≤ 9223372036854775807) (hc0 : -9223372036854775808 ≤ c) (hc : c ≤ 9223372036854775807) :
    Calls Tryd.prog 79 #[.agg #[.int .i64 i, .int .i64 c]] w fun e w' => e = .returned (.string ⟨(placeB i c).toArray⟩) ∧ Below w.heap.size w w' := by
  go_enter Tryd.func79, Tryd.ntmps79
  go_upto_region 1 with (fail)
  obtain ⟨w1, hw1⟩ : ∃ x, x = w.alloc (.cells #[.int .i64 i, .int .i64 c] 88) := ⟨_, rfl⟩
  rw [← hw1]
  have hb : Below w.heap.size w w1 := by rw [hw1]; exact (Below.refl _ _).alloc (Nat.le_refl _) _
  have hg : w1.heap[w.heap.size]? = some (.cells #[.int .i64 i, .int .i64 c] 88 (0, 0)) := by rw [hw1]; exact heap_alloc_new w _
  have HI := Lib.hid (show w1.cell? ⟨w.heap.size, 0, none⟩ = some (.int .i64 i) by rw [Lib.cell_of_heap hg]; rfl)
  have HC := Lib.hid (show w1.cell? ⟨w.heap.size, 1, none⟩ = some (.int .i64 c) by rw [Lib.cell_of_heap hg]; rfl)
  have HB := Lib.hid hb
  have HG := Lib.hid (lt_of_block hg)
  clear hw1 hb hg
  have hcat := cat2 (numB i.toNat) (numB c.toNat)
  have q1 := numB_length_9 (n := i.toNat) (by omega)
  have q2 := numB_length_9 (n := c.toNat) (by omega)
  refine wp_region_class_tail (fun w' => Below w1.heap.size w1 w') 6 (by kernel_rfl) (by kernel_rfl) (Below.refl _ _).drew ?_
  simp only [List.take_succ_cons, List.take_zero, List.drop_succ_cons, List.drop_zero]
  repeat (first
    | (go_big_quiet_want; refine quiet_load_cell 3 _ rfl ⟨w.heap.size, 0, none⟩ _ rfl (fun w' h => (h.cell (p := ⟨w.heap.size, 0, none⟩) HG.out).trans HI.out) Tryd.isAgg3 ?_; go_big_quiet_on; simp only [Act.put, List.setIfInBounds_toArray, List.set_cons_zero, List.set_cons_succ])
    | (go_big_quiet_want; refine quiet_load_cell 3 _ rfl ⟨w.heap.size, 1, none⟩ _ rfl (fun w' h => (h.cell (p := ⟨w.heap.size, 1, none⟩) HG.out).trans HC.out) Tryd.isAgg3 ?_; go_big_quiet_on; simp only [Act.put, List.setIfInBounds_toArray, List.set_cons_zero, List.set_cons_succ])
    | go_big_quiet_step ((intro hs; first
        | rfl
        | (go_at_call_of 33 (Value.int .i64 i); exact (num_int i _ hi0 hi).mono fun e w' h => ⟨h.1, hs.trans (h.2.mono hs.size)⟩)
        | (go_at_call_of 33 (Value.int .i64 c); exact (num_int c _ hc0 hc).mono fun e w' h => ⟨h.1, hs.trans (h.2.mono hs.size)⟩))))
  refine wpQuiet_nil ?_
  intro w2 hs
  have HS := Lib.hid hs
  clear hs
  go_wp2_with fail
  go_ret
  exact ⟨rfl, HB.out.trans (HS.out.mono HB.out.size)⟩

set_option maxHeartbeats 4000000 in
set_option maxRecDepth 100000 in
theorem dev_next (x : List Nat) (s : Int) (pl : List UInt8) (w : World) (hx : x.length = 16) (hl : ∀ y ∈ x, y < 256) (hs0 : -9223372036854775808 ≤ s) (hs : s ≤ 9223372036854775807) (hp : pl.length ≤ 18) (hk : KAt w) :
    Calls Tryd.prog 80 #[.agg (nums .u8 x).toArray, .int .i64 s, .string ⟨pl.toArray⟩] w fun e w' => e = .returned (.agg (nums .u8 (nextN x s.toNat pl)).toArray) ∧ Below w.heap.size w w' := by
  have HX := Lib.hid hx
  have HL := Lib.hid hl
  have HK := Lib.hid hk
  clear hx hl hk
  go_enter Tryd.func80, Tryd.ntmps80
  go_upto_region 1 with (fail)
  change Code.wp _ _ _ _ ((w.alloc (.cells (nums .u8 x).toArray 31)).alloc (.cells (nums .u8 (List.replicate 16 0)).toArray 31))
  obtain ⟨w1, hw1⟩ : ∃ x', x' = (w.alloc (.cells (nums .u8 x).toArray 31)).alloc (.cells (nums .u8 (List.replicate 16 0)).toArray 31) := ⟨_, rfl⟩
  rw [← hw1]
  have h3 : Blk w.heap.size 31 .u8 x w1 ∧ Blk (w.heap.size + 1) 31 .u8 (List.replicate 16 0) w1 ∧ Below w.heap.size w w1 := by rw [hw1]; exact two_new w _ _ _ _
  obtain ⟨hx1, hr1, hb1⟩ := h3
  have HX1 := Lib.hid hx1
  have HR1 := Lib.hid hr1
  have HB1 := Lib.hid hb1
  have HK1 := Lib.hid (HK.out.below hb1)
  clear hx1 hr1 hb1 hw1 HK
  have HLX := Lib.hid (txt_len x)
  refine wp_region_class_tail (fun w' => SS w1 w') 5 (by kernel_rfl) (by kernel_rfl) (SS.start HK1.out) ?_
  simp only [List.take_succ_cons, List.take_zero, List.drop_succ_cons, List.drop_zero]
  repeat (first
    | (go_big_quiet_want; refine quiet_conv_nums 44 9 5 _ rfl w.heap.size 16 x 31 (by rw [HX.out]; rfl) HL.out (fun w' h => HX1.out.below h.1) Tryd.underlying44 Tryd.underlying5 Tryd.underlying9 ?_; go_big_quiet_on; simp only [Act.put, List.setIfInBounds_toArray, List.set_cons_zero, List.set_cons_succ])
    | go_big_quiet_step ((intro hs'; first
        | rfl
        | (go_at_call 33; exact (num_int s _ hs0 hs).mono fun e w' h => ⟨h.1, hs'.next h.2⟩))))
  refine wpQuiet_nil ?_
  intro w2 hs2
  have HX2 := Lib.hid (HX1.out.below hs2.1)
  have HR2 := Lib.hid (HR1.out.below hs2.1)
  have HB2 := Lib.hid (HB1.out.trans (hs2.1.mono HB1.out.size))
  have HK2 := Lib.hid hs2.2
  have HG2 := Lib.hid (show w.heap.size + 1 < w2.heap.size from HR2.out.lt)
  clear hs2 HX1 HR1 HB1 HK1 HX2
  go_wp2_with fail
  refine (dev_sum [115] (some ⟨w2.heap.size, 0, none⟩) 3 [txt x, numB s.toNat, pl] _ (at_three w2 _ _ _) (fun h => by cases h) (by simp) (parts3_small HX.out (by omega) hp) (HK2.out.below ((Below.refl _ _).alloc (Nat.le_refl _) _))).mono ?_
  rintro e w3 ⟨rfl, hb3⟩
  have hb : Below w2.heap.size w2 w3 := ((Below.refl _ w2).alloc (Nat.le_refl _) _).trans (hb3.mono (by simp))
  have HR3 := Lib.hid (HR2.out.below hb)
  have HB3 := Lib.hid (HB2.out.trans (hb.mono HB2.out.size))
  clear hb hb3 HR2 HB2 HK2 HG2
  go_wp2_with fail
  refine (dev_cut _ w3 (shaN_len _)).mono ?_
  rintro e w4 ⟨rfl, hb4⟩
  have HR4 := Lib.hid (HR3.out.below hb4)
  have HB4 := Lib.hid (HB3.out.trans (hb4.mono HB3.out.size))
  clear hb4 HR3 HB3
  rw [show (shaN (listB [[115], txt x, numB s.toNat, pl])).take 16 = nextN x s.toNat pl from rfl]
  have HN := Lib.hid (nextN_len x s.toNat pl)
  have HI := Lib.hid (show (Tryd.prog.info? 31).map (·.size) = some (nextN x s.toNat pl).length by rw [nextN_len]; exact Tryd.infoE)
  have HL2 := Lib.hid (show (List.replicate 16 0).length = (nextN x s.toNat pl).length by rw [nextN_len]; rfl)
  go_wp2_with (refine wpList_store_nums rfl 31 _ _ rfl rfl (w.heap.size + 1) .u8 _ (nextN x s.toNat pl) 31 rfl rfl HR4.out HI.out HL2.out ?_)
  intro w7 hc hb
  have HC7 := Lib.hid (show Blk (w.heap.size + 1) 31 .u8 (nextN x s.toNat pl) w7 from hc.out)
  have HB7 := Lib.hid (show Below w.heap.size w w7 from But.toBelow HB4.out hb.out (by omega) HB4.out.size)
  clear hc hb
  go_wp2_with fail
  exact bodyPost_ret (results_nums rfl _ _ (w.heap.size + 1) .u8 _ 31 _ rfl HC7.out Tryd.underlying31 rfl HI.out) rfl ⟨rfl, HB7.out⟩
end Go.Proofs.YtcjjhddppcmgoaaDoor

/-! The next step, the document's. -/
namespace Go.Proofs.YtcjjhddppcmgoaaDoor
open Go.RowKit Go.BigFrame

set_option maxHeartbeats 4000000 in
set_option maxRecDepth 100000 in
theorem ref_next (x : List Nat) (i c s : Int) (w : World) (hx : x.length = 16) (hl : ∀ y ∈ x, y < 256) (hi0 : -9223372036854775808 ≤ i) (hi : i ≤ 9223372036854775807) (hc0 : -9223372036854775808 ≤ c) (hc : c ≤ 9223372036854775807) (hs0 : 0 ≤ s) (hs : s ≤ 9223372036854775807) :
    Calls Tryd.prog 66 #[.agg (nums .u8 x).toArray, .int .i64 i, .int .i64 c, .int .i64 s] w fun e w' => e = .returned (.agg (nums .u8 (nextN x s.toNat (placeB i c))).toArray) ∧ Below w.heap.size w w' := by
  have HX := Lib.hid hx
  have HL := Lib.hid hl
  clear hx hl
  go_enter Tryd.func66, Tryd.ntmps66
  go_upto_region 1 with (fail)
  change Code.wp _ _ _ _ ((w.alloc (.cells (nums .u8 x).toArray 31)).alloc (.cells (nums .u8 (List.replicate 16 0)).toArray 31))
  obtain ⟨w1, hw1⟩ : ∃ x', x' = (w.alloc (.cells (nums .u8 x).toArray 31)).alloc (.cells (nums .u8 (List.replicate 16 0)).toArray 31) := ⟨_, rfl⟩
  rw [← hw1]
  have h3 : Blk w.heap.size 31 .u8 x w1 ∧ Blk (w.heap.size + 1) 31 .u8 (List.replicate 16 0) w1 ∧ Below w.heap.size w w1 := by rw [hw1]; exact two_new w _ _ _ _
  obtain ⟨hx1, hr1, hb1⟩ := h3
  have HX1 := Lib.hid hx1
  have HR1 := Lib.hid hr1
  have HB1 := Lib.hid hb1
  clear hx1 hr1 hb1 hw1
  obtain ⟨sn, rfl⟩ : ∃ n : Nat, s = n := ⟨s.toNat, by omega⟩
  obtain ⟨ni, hni⟩ : ∃ n : Nat, max i 0 = n := ⟨i.toNat, by omega⟩
  obtain ⟨nc, hnc⟩ : ∃ n : Nat, max c 0 = n := ⟨c.toNat, by omega⟩
  have hin : i.toNat = ni := by omega
  have hcn : c.toNat = nc := by omega
  have hin2 : ni < 9223372036854775808 := by omega
  have hcn2 : nc < 9223372036854775808 := by omega
  have q1 := numB_length_9 hin2
  have q2 := numB_length_9 hcn2
  have HP := Lib.hid (show placeB i c = numB ni ++ numB nc by rw [placeB, hin, hcn])
  have HPL := Lib.hid (placeB_len hi hc)
  clear hin hcn
  have hcat := cat2 (numB ni) (numB nc)
  refine wp_region_class_tail (fun w' => Below w1.heap.size w1 w') 11 (by kernel_rfl) (by kernel_rfl) (Below.refl _ _).drew ?_
  simp only [List.take_succ_cons, List.take_zero, List.drop_succ_cons, List.drop_zero]
  repeat (first
    | (go_big_quiet_want; refine quiet_conv_nums 44 9 5 _ rfl w.heap.size 16 x 31 (by rw [HX.out]; rfl) HL.out (fun w' h => HX1.out.below h) Tryd.underlying44 Tryd.underlying5 Tryd.underlying9 ?_; go_big_quiet_on; simp only [Act.put, List.setIfInBounds_toArray, List.set_cons_zero, List.set_cons_succ])
    | go_big_quiet_step ((intro hs'; first
        | rfl
        | (go_at_call_of 36 (Value.int .i64 (sn : Int)); exact (rnumref_any sn _ (by omega)).mono fun e w' h => ⟨h.1, hs'.trans (h.2.mono hs'.size)⟩)
        | (go_at_call_of 36 (Value.int .i64 (ni : Int)); exact (rnumref_any ni _ hin2).mono fun e w' h => ⟨h.1, hs'.trans (h.2.mono hs'.size)⟩)
        | (go_at_call_of 36 (Value.int .i64 (nc : Int)); exact (rnumref_any nc _ hcn2).mono fun e w' h => ⟨h.1, hs'.trans (h.2.mono hs'.size)⟩))))
  refine wpQuiet_nil ?_
  intro w2 hs2
  rw [← HP.out]
  have HR2 := Lib.hid (HR1.out.below hs2)
  have HB2 := Lib.hid (HB1.out.trans (hs2.mono HB1.out.size))
  have HG2 := Lib.hid (show w.heap.size + 1 < w2.heap.size from HR2.out.lt)
  clear hs2 HX1 HR1 HB1
  go_wp2_with fail
  refine (ref_sum [115] (some ⟨w2.heap.size, 0, none⟩) 3 [txt x, numB sn, placeB i c] _ (at_three w2 _ _ _) (fun h => by cases h) (by simp) (parts3_small HX.out (by omega) HPL.out)).mono ?_
  rintro e w3 ⟨rfl, hb3⟩
  have hb : Below w2.heap.size w2 w3 := ((Below.refl _ w2).alloc (Nat.le_refl _) _).trans (hb3.mono (by simp))
  have HR3 := Lib.hid (HR2.out.below hb)
  have HB3 := Lib.hid (HB2.out.trans (hb.mono HB2.out.size))
  clear hb hb3 HR2 HB2 HG2
  go_wp2_with fail
  refine (ref_cut _ w3 (shaN_len _)).mono ?_
  rintro e w4 ⟨rfl, hb4⟩
  have HR4 := Lib.hid (HR3.out.below hb4)
  have HB4 := Lib.hid (HB3.out.trans (hb4.mono HB3.out.size))
  clear hb4 HR3 HB3
  rw [show (shaN (listB [[115], txt x, numB sn, placeB i c])).take 16 = nextN x sn (placeB i c) from rfl]
  have HI := Lib.hid (show (Tryd.prog.info? 31).map (·.size) = some (nextN x sn (placeB i c)).length by rw [nextN_len]; exact Tryd.infoE)
  have HL2 := Lib.hid (show (List.replicate 16 0).length = (nextN x sn (placeB i c)).length by rw [nextN_len]; rfl)
  go_wp2_with (refine wpList_store_nums rfl 31 _ _ rfl rfl (w.heap.size + 1) .u8 _ (nextN x sn (placeB i c)) 31 rfl rfl HR4.out HI.out HL2.out ?_)
  intro w7 hc hb
  have HC7 := Lib.hid (show Blk (w.heap.size + 1) 31 .u8 (nextN x sn (placeB i c)) w7 from hc.out)
  have HB7 := Lib.hid (show Below w.heap.size w w7 from But.toBelow HB4.out hb.out (by omega) HB4.out.size)
  clear hc hb
  go_wp2_with fail
  exact bodyPost_ret (results_nums rfl _ _ (w.heap.size + 1) .u8 _ 31 _ rfl HC7.out Tryd.underlying31 rfl HI.out) rfl ⟨rfl, HB7.out⟩
end Go.Proofs.YtcjjhddppcmgoaaDoor

/-! Walk, the developers'. -/
namespace Go.Proofs.YtcjjhddppcmgoaaDoor
open Go.RowKit Go.BigFrame

set_option maxHeartbeats 4000000 in
set_option maxRecDepth 100000 in
theorem dev_walk (x : List Nat) (i c p q : Int) (w : World) (hx : x.length = 16) (hl : ∀ y ∈ x, y < 256) (hi0 : -9223372036854775808 ≤ i) (hi : i ≤ 9223372036854775807) (hc0 : -9223372036854775808 ≤ c) (hc : c ≤ 9223372036854775807)
    (hp0 : -9223372036854775808 ≤ p) (hp : p ≤ 9223372036854775807) (hq0 : -9223372036854775808 ≤ q) (hq : q ≤ 9223372036854775807) (hk : KAt w) :
    Calls Tryd.prog 63 #[.agg (nums .u8 x).toArray, .agg #[.int .i64 i, .int .i64 c], .int .i64 p, .int .i64 q] w fun e w' => e = .returned (.agg (nums .u8 (walkI x (placeB i c) p q)).toArray) ∧ Below w.heap.size w w' := by
  have HX := Lib.hid hx
  have HL := Lib.hid hl
  have HK := Lib.hid hk
  have HK0 := Lib.hid hk.lt
  clear hx hl hk
  go_enter Tryd.func63, Tryd.ntmps63
  go_upto_region 1 with (fail)
  change Code.wp _ _ _ _ (((w.alloc (.cells (nums .u8 x).toArray 31)).alloc (.cells #[.int .i64 i, .int .i64 c] 88)).alloc (.cells (nums .u8 (List.replicate 16 0)).toArray 31))
  obtain ⟨w1, hw1⟩ : ∃ x', x' = ((w.alloc (.cells (nums .u8 x).toArray 31)).alloc (.cells #[.int .i64 i, .int .i64 c] 88)).alloc (.cells (nums .u8 (List.replicate 16 0)).toArray 31) := ⟨_, rfl⟩
  rw [← hw1]
  have h3 : Blk w.heap.size 31 .u8 x w1 ∧ w1.heap[w.heap.size + 1]? = some (.cells #[.int .i64 i, .int .i64 c] 88 (0, 0)) ∧ Blk (w.heap.size + 2) 31 .u8 (List.replicate 16 0) w1 ∧ Below w.heap.size w w1 := by rw [hw1]; exact place_new w _ _ _ _ _ _
  obtain ⟨hx1, hg1, hr1, hb1⟩ := h3
  have HX1 := Lib.hid hx1
  have HR1 := Lib.hid hr1
  have HB1 := Lib.hid hb1
  have HK1 := Lib.hid (HK.out.below hb1)
  have c1 : w1.cell? ⟨w.heap.size + 1, 0, none⟩ = some (.int .i64 i) := by rw [Lib.cell_of_heap hg1]; rfl
  have c2 : w1.cell? ⟨w.heap.size + 1, 1, none⟩ = some (.int .i64 c) := by rw [Lib.cell_of_heap hg1]; rfl
  clear hx1 hr1 hb1 hw1 hg1 HK
  go_wp2_with fail
  refine (dev_encode i c w1 hi0 hi hc0 hc).mono ?_
  rintro e w2 ⟨rfl, hb2⟩
  have HX2 := Lib.hid (HX1.out.below hb2)
  have HR2 := Lib.hid (HR1.out.below hb2)
  have HB2 := Lib.hid (HB1.out.trans (hb2.mono HB1.out.size))
  have HK2 := Lib.hid (HK1.out.below hb2)
  clear hb2 c1 c2 HX1 HR1 HB1 HK1
  have HPL := Lib.hid (placeB_len hi hc)
  have HWI := Lib.hid (show walkI x (placeB i c) p q = walkN x (placeB i c) (max p 0).toNat ((min q 15).toNat - (max p 0).toNat) from rfl)
  obtain ⟨a, ha⟩ : ∃ n : Nat, max p 0 = n := ⟨p.toNat, by omega⟩
  obtain ⟨m, hm⟩ : ∃ m : Int, min q 15 = m := ⟨_, rfl⟩
  have ha2 : a < 9223372036854775808 := by omega
  have hm2 : m ≤ 15 := by omega
  rw [ha, hm, Int.toNat_natCast] at HWI
  have hm0 : -9223372036854775808 ≤ m := by omega
  clear hi0 hi hc0 hc hp0 hp hq0 hq
  obtain ⟨pl, hpl⟩ : ∃ pl, placeB i c = pl := ⟨_, rfl⟩
  rw [hpl] at HPL HWI ⊢
  have HP := Lib.hid hpl
  clear hpl
  go_wp2_with fail
  go_loopw [10] (fun n wq => ∃ k : Nat, n = .int .i64 k ∧ a ≤ k ∧ (k = a ∨ (k : Int) ≤ m) ∧ Blk w.heap.size 31 .u8 (walkN x pl a (k - a)) wq ∧ Blk (w.heap.size + 2) 31 .u8 (List.replicate 16 0) wq ∧ Below w.heap.size w wq ∧ KAt wq) (fun n _ => (m - intOf n).toNat)
  case atStart => exact ⟨a, rfl, Nat.le_refl _, Or.inl rfl, by rw [Nat.sub_self]; exact HX2.out, HR2.out, HB2.out, HK2.out⟩
  case round =>
    clear HX2 HR2 HB2 HK2
    obtain ⟨k, rfl, hak, hkm, hc, hr, hb, hk⟩ := hrel
    have HC := Lib.hid hc
    have HR := Lib.hid hr
    have HB := Lib.hid hb
    have HK := Lib.hid hk
    clear hc hr hb hk
    by_cases hlk : (k : Int) < m
    · clear hkm
      have HI := Lib.hid (show (Tryd.prog.info? 31).map (·.size) = some (walkN x pl a (k - a)).length by rw [walkN_len HX.out]; exact Tryd.infoE)
      go_wp2_with (refine wpList_load_nums rfl 31 _ rfl w.heap.size .u8 _ 31 _ rfl HC.out Tryd.underlying31 rfl HI.out ?_)
      refine (dev_next (walkN x pl a (k - a)) k pl wr (walkN_len HX.out _ _ _) (walkN_lt HL.out _ _ _) (by omega) (by omega) HPL.out HK.out).mono ?_
      rintro e w3 ⟨rfl, hb3⟩
      rw [Int.toNat_natCast, show nextN (walkN x pl a (k - a)) k pl = walkN x pl a (k + 1 - a) by rw [show k + 1 - a = (k - a) + 1 by omega, walkN, show a + (k - a) = k by omega]]
      have HC3 := Lib.hid (HC.out.below hb3)
      have HR3 := Lib.hid (HR.out.below hb3)
      have HB3 := Lib.hid (HB.out.trans (hb3.mono HB.out.size))
      have HK3 := Lib.hid (HK.out.below hb3)
      have HNK := Lib.hid (show 0 ≠ w.heap.size by have := HK0.out; omega)
      clear hb3 HC HR HB HK HI
      have HI := Lib.hid (show (Tryd.prog.info? 31).map (·.size) = some (walkN x pl a (k + 1 - a)).length by rw [walkN_len HX.out]; exact Tryd.infoE)
      have HL2 := Lib.hid (show (walkN x pl a (k - a)).length = (walkN x pl a (k + 1 - a)).length by rw [walkN_len HX.out, walkN_len HX.out])
      go_wp2_with (refine wpList_store_nums rfl 31 _ _ rfl rfl w.heap.size .u8 _ (walkN x pl a (k + 1 - a)) 31 rfl rfl HC3.out HI.out HL2.out ?_)
      intro w7 hc hb
      have HC7 := Lib.hid (show Blk w.heap.size 31 .u8 (walkN x pl a (k + 1 - a)) w7 from hc.out)
      have HR7 := Lib.hid (HR3.out.but hb.out (by omega))
      have HB7 := Lib.hid (show Below w.heap.size w w7 from But.toBelow HB3.out hb.out (Nat.le_refl _) HB3.out.size)
      have HK7 := Lib.hid (HK3.out.but hb.out HNK.out)
      clear hc hb HC3 HR3 HB3 HK3 HI HL2
      go_wp2_with fail
      exact ⟨⟨k + 1, by go_num, by omega, Or.inr (by omega), HC7.out, HR7.out, HB7.out, HK7.out⟩, by simp [intOf]; omega⟩
    · have e1 : walkN x pl a (k - a) = walkI x pl p q := by rw [HWI.out, show k - a = m.toNat - a by omega]
      rw [e1] at HC
      clear hkm e1
      have HWL := Lib.hid (show (walkI x pl p q).length = 16 by rw [HWI.out]; exact walkN_len HX.out _ _ _)
      have HI := Lib.hid (show (Tryd.prog.info? 31).map (·.size) = some (walkI x pl p q).length by rw [HWL.out]; exact Tryd.infoE)
      have HL2 := Lib.hid (show (List.replicate 16 0).length = (walkI x pl p q).length by rw [HWL.out]; rfl)
      go_wp2_with (first | (refine wpList_load_nums rfl 31 _ rfl w.heap.size .u8 _ 31 _ rfl HC.out Tryd.underlying31 rfl HI.out ?_) | (refine wpList_store_nums rfl 31 _ _ rfl rfl (w.heap.size + 2) .u8 _ (walkI x pl p q) 31 rfl rfl HR.out HI.out HL2.out ?_))
      intro w7 hc hb
      have HC7 := Lib.hid (show Blk (w.heap.size + 2) 31 .u8 (walkI x pl p q) w7 from hc.out)
      have HB7 := Lib.hid (show Below w.heap.size w w7 from But.toBelow HB.out hb.out (by omega) HB.out.size)
      clear hc hb
      go_wp2_with fail
      exact bodyPost_ret (results_nums rfl _ _ (w.heap.size + 2) .u8 _ 31 _ rfl HC7.out Tryd.underlying31 rfl HI.out) rfl ⟨by rw [HP.out], HB7.out⟩
end Go.Proofs.YtcjjhddppcmgoaaDoor

/-! Walk, the document's. -/
namespace Go.Proofs.YtcjjhddppcmgoaaDoor
open Go.RowKit Go.BigFrame

set_option maxHeartbeats 4000000 in
set_option maxRecDepth 100000 in
theorem ref_walk (x : List Nat) (i c p q : Int) (w : World) (hx : x.length = 16) (hl : ∀ y ∈ x, y < 256) (hi0 : -9223372036854775808 ≤ i) (hi : i ≤ 9223372036854775807) (hc0 : -9223372036854775808 ≤ c) (hc : c ≤ 9223372036854775807)
    (hp0 : -9223372036854775808 ≤ p) (hp : p ≤ 9223372036854775807) (hq0 : -9223372036854775808 ≤ q) (hq : q ≤ 9223372036854775807) :
    Calls Tryd.prog 50 #[.agg (nums .u8 x).toArray, .int .i64 i, .int .i64 c, .int .i64 p, .int .i64 q] w fun e w' => e = .returned (.agg (nums .u8 (walkI x (placeB i c) p q)).toArray) ∧ Below w.heap.size w w' := by
  have HX := Lib.hid hx
  have HL := Lib.hid hl
  clear hx hl
  go_enter Tryd.func50, Tryd.ntmps50
  go_upto_region 1 with (fail)
  change Code.wp _ _ _ _ ((w.alloc (.cells (nums .u8 x).toArray 31)).alloc (.cells (nums .u8 (List.replicate 16 0)).toArray 31))
  obtain ⟨w2, hw1⟩ : ∃ x', x' = (w.alloc (.cells (nums .u8 x).toArray 31)).alloc (.cells (nums .u8 (List.replicate 16 0)).toArray 31) := ⟨_, rfl⟩
  rw [← hw1]
  have h3 : Blk w.heap.size 31 .u8 x w2 ∧ Blk (w.heap.size + 1) 31 .u8 (List.replicate 16 0) w2 ∧ Below w.heap.size w w2 := by rw [hw1]; exact two_new w _ _ _ _
  obtain ⟨hx1, hr1, hb1⟩ := h3
  have HX2 := Lib.hid hx1
  have HR2 := Lib.hid hr1
  have HB2 := Lib.hid hb1
  clear hx1 hr1 hb1 hw1
  have HWI := Lib.hid (show walkI x (placeB i c) p q = walkN x (placeB i c) (max p 0).toNat ((min q 15).toNat - (max p 0).toNat) from rfl)
  obtain ⟨a, ha⟩ : ∃ n : Nat, max p 0 = n := ⟨p.toNat, by omega⟩
  obtain ⟨m, hm⟩ : ∃ m : Int, min q 15 = m := ⟨_, rfl⟩
  have ha2 : a < 9223372036854775808 := by omega
  have hm2 : m ≤ 15 := by omega
  rw [ha, hm, Int.toNat_natCast] at HWI
  have hm0 : -9223372036854775808 ≤ m := by omega
  obtain ⟨pl, hpl⟩ : ∃ pl, placeB i c = pl := ⟨_, rfl⟩
  rw [hpl] at HWI
  have HP := Lib.hid hpl
  clear hpl
  have HI0 := Lib.hid hi0
  have HI1 := Lib.hid hi
  have HC0 := Lib.hid hc0
  have HC1 := Lib.hid hc
  clear hi0 hi hc0 hc
  by_cases hpn : p < 0
  all_goals by_cases hqn : 15 < q
  all_goals go_wp2_with fail
  all_goals (try rw [show (15 : Int) = m by omega])
  all_goals (try rw [show q = m by omega])
  all_goals (try rw [show (0 : Int) = (a : Int) by omega])
  all_goals (try rw [show p = (a : Int) by omega])
  all_goals clear ha hm hpn hqn hp0 hp hq0 hq
  all_goals go_loopw [11] (fun n wq => ∃ k : Nat, n = .int .i64 k ∧ a ≤ k ∧ (k = a ∨ (k : Int) ≤ m) ∧ Blk w.heap.size 31 .u8 (walkN x pl a (k - a)) wq ∧ Blk (w.heap.size + 1) 31 .u8 (List.replicate 16 0) wq ∧ Below w.heap.size w wq) (fun n _ => (m - intOf n).toNat)
  all_goals first
    | exact ⟨a, rfl, Nat.le_refl _, Or.inl rfl, by rw [Nat.sub_self]; exact HX2.out, HR2.out, HB2.out⟩
    | skip
  all_goals (
    clear HX2 HR2 HB2
    obtain ⟨k, rfl, hak, hkm, hc, hr, hb⟩ := hrel
    have HC := Lib.hid hc
    have HR := Lib.hid hr
    have HB := Lib.hid hb
    clear hc hr hb
    by_cases hlk : (k : Int) < m
    · clear hkm
      have HI := Lib.hid (show (Tryd.prog.info? 31).map (·.size) = some (walkN x pl a (k - a)).length by rw [walkN_len HX.out]; exact Tryd.infoE)
      go_wp2_with (refine wpList_load_nums rfl 31 _ rfl w.heap.size .u8 _ 31 _ rfl HC.out Tryd.underlying31 rfl HI.out ?_)
      refine (ref_next (walkN x pl a (k - a)) i c k wr (walkN_len HX.out _ _ _) (walkN_lt HL.out _ _ _) HI0.out HI1.out HC0.out HC1.out (by omega) (by omega)).mono ?_
      rintro e w3 ⟨rfl, hb3⟩
      rw [HP.out, Int.toNat_natCast, show nextN (walkN x pl a (k - a)) k pl = walkN x pl a (k + 1 - a) by rw [show k + 1 - a = (k - a) + 1 by omega, walkN, show a + (k - a) = k by omega]]
      have HC3 := Lib.hid (HC.out.below hb3)
      have HR3 := Lib.hid (HR.out.below hb3)
      have HB3 := Lib.hid (HB.out.trans (hb3.mono HB.out.size))
      clear hb3 HC HR HB HI
      have HI := Lib.hid (show (Tryd.prog.info? 31).map (·.size) = some (walkN x pl a (k + 1 - a)).length by rw [walkN_len HX.out]; exact Tryd.infoE)
      have HL2 := Lib.hid (show (walkN x pl a (k - a)).length = (walkN x pl a (k + 1 - a)).length by rw [walkN_len HX.out, walkN_len HX.out])
      go_wp2_with (refine wpList_store_nums rfl 31 _ _ rfl rfl w.heap.size .u8 _ (walkN x pl a (k + 1 - a)) 31 rfl rfl HC3.out HI.out HL2.out ?_)
      intro w7 hc hb
      have HC7 := Lib.hid (show Blk w.heap.size 31 .u8 (walkN x pl a (k + 1 - a)) w7 from hc.out)
      have HR7 := Lib.hid (HR3.out.but hb.out (by omega))
      have HB7 := Lib.hid (show Below w.heap.size w w7 from But.toBelow HB3.out hb.out (Nat.le_refl _) HB3.out.size)
      clear hc hb HC3 HR3 HB3 HI HL2
      go_wp2_with fail
      exact ⟨⟨k + 1, by go_num, by omega, Or.inr (by omega), HC7.out, HR7.out, HB7.out⟩, by simp [intOf]; omega⟩
    · have e1 : walkN x pl a (k - a) = walkI x pl p q := by rw [HWI.out, show k - a = m.toNat - a by omega]
      rw [e1] at HC
      clear hkm e1
      have HWL := Lib.hid (show (walkI x pl p q).length = 16 by rw [HWI.out]; exact walkN_len HX.out _ _ _)
      have HI := Lib.hid (show (Tryd.prog.info? 31).map (·.size) = some (walkI x pl p q).length by rw [HWL.out]; exact Tryd.infoE)
      have HL2 := Lib.hid (show (List.replicate 16 0).length = (walkI x pl p q).length by rw [HWL.out]; rfl)
      go_wp2_with (first | (refine wpList_load_nums rfl 31 _ rfl w.heap.size .u8 _ 31 _ rfl HC.out Tryd.underlying31 rfl HI.out ?_) | (refine wpList_store_nums rfl 31 _ _ rfl rfl (w.heap.size + 1) .u8 _ (walkI x pl p q) 31 rfl rfl HR.out HI.out HL2.out ?_))
      intro w7 hc hb
      have HC7 := Lib.hid (show Blk (w.heap.size + 1) 31 .u8 (walkI x pl p q) w7 from hc.out)
      have HB7 := Lib.hid (show Below w.heap.size w w7 from But.toBelow HB.out hb.out (by omega) HB.out.size)
      clear hc hb
      go_wp2_with fail
      exact bodyPost_ret (results_nums rfl _ _ (w.heap.size + 1) .u8 _ 31 _ rfl HC7.out Tryd.underlying31 rfl HI.out) rfl ⟨by rw [HP.out], HB7.out⟩)
end Go.Proofs.YtcjjhddppcmgoaaDoor
