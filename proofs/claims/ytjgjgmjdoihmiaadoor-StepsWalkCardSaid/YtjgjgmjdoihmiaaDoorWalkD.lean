/-
  Walk, the developers'.
-/
import Derived.Test.YtjgjgmjdoihmiaaDoorNextD
namespace Go.Proofs.YtjgjgmjdoihmiaaDoor
open Go.RowKit Go.BigFrame

/-- Three blocks are new: an array, a place, an array. -/
theorem place_new (w : World) (l m : List Nat) (a : Array Value) (t v u : TypeId) :
    Blk w.heap.size t .u8 l (((w.alloc (.cells (nums .u8 l).toArray t)).alloc (.cells a v)).alloc (.cells (nums .u8 m).toArray u)) ∧
    (((w.alloc (.cells (nums .u8 l).toArray t)).alloc (.cells a v)).alloc (.cells (nums .u8 m).toArray u)).heap[w.heap.size + 1]? = some (.cells a v (0, 0)) ∧
    Blk (w.heap.size + 2) u .u8 m (((w.alloc (.cells (nums .u8 l).toArray t)).alloc (.cells a v)).alloc (.cells (nums .u8 m).toArray u)) ∧
    Below w.heap.size w (((w.alloc (.cells (nums .u8 l).toArray t)).alloc (.cells a v)).alloc (.cells (nums .u8 m).toArray u)) := by
  have h1 : Blk w.heap.size t .u8 l (w.alloc (.cells (nums .u8 l).toArray t)) := heap_alloc_new w _
  have h2 : ((w.alloc (.cells (nums .u8 l).toArray t)).alloc (.cells a v)).heap[w.heap.size + 1]? = some (.cells a v (0, 0)) := by
    have h := heap_alloc_new (w.alloc (.cells (nums .u8 l).toArray t)) (.cells a v)
    rw [World.size_alloc] at h
    exact h
  have h3 : Blk (w.heap.size + 2) u .u8 m (((w.alloc (.cells (nums .u8 l).toArray t)).alloc (.cells a v)).alloc (.cells (nums .u8 m).toArray u)) := by
    have h := heap_alloc_new ((w.alloc (.cells (nums .u8 l).toArray t)).alloc (.cells a v)) (.cells (nums .u8 m).toArray u)
    rw [World.size_alloc, World.size_alloc] at h
    exact h
  exact ⟨(h1.alloc _).alloc _, (heap_alloc_old _ _ (lt_of_block h2)).trans h2, h3, (((Below.refl _ w).alloc (Nat.le_refl _) _).alloc (by simp) _).alloc (by simp; omega) _⟩

set_option maxHeartbeats 4000000 in
set_option maxRecDepth 100000 in
theorem dev_walk (x : List Nat) (i c p q : Int) (w : World) (hx : x.length = 16) (hl : ∀ y ∈ x, y < 256) (hi0 : -9223372036854775808 ≤ i) (hi : i ≤ 9223372036854775807) (hc0 : -9223372036854775808 ≤ c) (hc : c ≤ 9223372036854775807)
    (hp0 : -9223372036854775808 ≤ p) (hp : p ≤ 9223372036854775807) (hq0 : -9223372036854775808 ≤ q) (hq : q ≤ 9223372036854775807) (hk : KAt w) :
    Calls Tryd.prog 9 #[.agg (nums .u8 x).toArray, .agg #[.int .i64 i, .int .i64 c], .int .i64 p, .int .i64 q] w fun e w' => e = .returned (.agg (nums .u8 (walkI x (placeB i c) p q)).toArray) ∧ Below w.heap.size w w' := by
  have HX := Lib.hid hx
  have HL := Lib.hid hl
  have HK := Lib.hid hk
  have HK0 := Lib.hid hk.lt
  clear hx hl hk
  go_enter Tryd.func9, Tryd.ntmps9
  go_upto_region 1 with (fail)
  change Code.wp _ _ _ _ (((w.alloc (.cells (nums .u8 x).toArray 24)).alloc (.cells #[.int .i64 i, .int .i64 c] 27)).alloc (.cells (nums .u8 (List.replicate 16 0)).toArray 24))
  obtain ⟨w1, hw1⟩ : ∃ x', x' = ((w.alloc (.cells (nums .u8 x).toArray 24)).alloc (.cells #[.int .i64 i, .int .i64 c] 27)).alloc (.cells (nums .u8 (List.replicate 16 0)).toArray 24) := ⟨_, rfl⟩
  rw [← hw1]
  have h3 : Blk w.heap.size 24 .u8 x w1 ∧ w1.heap[w.heap.size + 1]? = some (.cells #[.int .i64 i, .int .i64 c] 27 (0, 0)) ∧ Blk (w.heap.size + 2) 24 .u8 (List.replicate 16 0) w1 ∧ Below w.heap.size w w1 := by rw [hw1]; exact place_new w _ _ _ _ _ _
  obtain ⟨hx1, hg1, hr1, hb1⟩ := h3
  have HX1 := Lib.hid hx1
  have HR1 := Lib.hid hr1
  have HB1 := Lib.hid hb1
  have HK1 := Lib.hid (HK.out.below hb1)
  have c1 : w1.cell? ⟨w.heap.size + 1, 0, none⟩ = some (.int .i64 i) := by rw [Lib.cell_of_heap hg1]; rfl
  have c2 : w1.cell? ⟨w.heap.size + 1, 1, none⟩ = some (.int .i64 c) := by rw [Lib.cell_of_heap hg1]; rfl
  clear hx1 hr1 hb1 hw1 hg1 HK
  go_wp2_with fail
  refine (dev_encode i c w1 hi0 hi hc0 hc).mono ?_
  rintro e w2 ⟨rfl, hb2⟩
  have HX2 := Lib.hid (HX1.out.below hb2)
  have HR2 := Lib.hid (HR1.out.below hb2)
  have HB2 := Lib.hid (HB1.out.trans (hb2.mono HB1.out.size))
  have HK2 := Lib.hid (HK1.out.below hb2)
  clear hb2 c1 c2 HX1 HR1 HB1 HK1
  have HPL := Lib.hid (placeB_len hi hc)
  have HWI := Lib.hid (show walkI x (placeB i c) p q = walkN x (placeB i c) (max p 0).toNat ((min q 15).toNat - (max p 0).toNat) from rfl)
  obtain ⟨a, ha⟩ : ∃ n : Nat, max p 0 = n := ⟨p.toNat, by omega⟩
  obtain ⟨m, hm⟩ : ∃ m : Int, min q 15 = m := ⟨_, rfl⟩
  have ha2 : a < 9223372036854775808 := by omega
  have hm2 : m ≤ 15 := by omega
  rw [ha, hm, Int.toNat_natCast] at HWI
  have hm0 : -9223372036854775808 ≤ m := by omega
  clear hi0 hi hc0 hc hp0 hp hq0 hq
  obtain ⟨pl, hpl⟩ : ∃ pl, placeB i c = pl := ⟨_, rfl⟩
  rw [hpl] at HPL HWI ⊢
  have HP := Lib.hid hpl
  clear hpl
  go_wp2_with fail
  go_loopw [10] (fun n wq => ∃ k : Nat, n = .int .i64 k ∧ a ≤ k ∧ (k = a ∨ (k : Int) ≤ m) ∧ Blk w.heap.size 24 .u8 (walkN x pl a (k - a)) wq ∧ Blk (w.heap.size + 2) 24 .u8 (List.replicate 16 0) wq ∧ Below w.heap.size w wq ∧ KAt wq) (fun n _ => (m - intOf n).toNat)
  case atStart => exact ⟨a, rfl, Nat.le_refl _, Or.inl rfl, by rw [Nat.sub_self]; exact HX2.out, HR2.out, HB2.out, HK2.out⟩
  case round =>
    clear HX2 HR2 HB2 HK2
    obtain ⟨k, rfl, hak, hkm, hc, hr, hb, hk⟩ := hrel
    have HC := Lib.hid hc
    have HR := Lib.hid hr
    have HB := Lib.hid hb
    have HK := Lib.hid hk
    clear hc hr hb hk
    by_cases hlk : (k : Int) < m
    · clear hkm
      have HI := Lib.hid (show (Tryd.prog.info? 24).map (·.size) = some (walkN x pl a (k - a)).length by rw [walkN_len HX.out]; exact Tryd.infoE)
      go_wp2_with (refine wpList_load_nums rfl 24 _ rfl w.heap.size .u8 _ 24 _ rfl HC.out Tryd.underlying24 rfl HI.out ?_)
      refine (dev_next (walkN x pl a (k - a)) k pl wr (walkN_len HX.out _ _ _) (walkN_lt HL.out _ _ _) (by omega) (by omega) HPL.out HK.out).mono ?_
      rintro e w3 ⟨rfl, hb3⟩
      rw [Int.toNat_natCast, show nextN (walkN x pl a (k - a)) k pl = walkN x pl a (k + 1 - a) by rw [show k + 1 - a = (k - a) + 1 by omega, walkN, show a + (k - a) = k by omega]]
      have HC3 := Lib.hid (HC.out.below hb3)
      have HR3 := Lib.hid (HR.out.below hb3)
      have HB3 := Lib.hid (HB.out.trans (hb3.mono HB.out.size))
      have HK3 := Lib.hid (HK.out.below hb3)
      have HNK := Lib.hid (show 0 ≠ w.heap.size by have := HK0.out; omega)
      clear hb3 HC HR HB HK HI
      have HI := Lib.hid (show (Tryd.prog.info? 24).map (·.size) = some (walkN x pl a (k + 1 - a)).length by rw [walkN_len HX.out]; exact Tryd.infoE)
      have HL2 := Lib.hid (show (walkN x pl a (k - a)).length = (walkN x pl a (k + 1 - a)).length by rw [walkN_len HX.out, walkN_len HX.out])
      go_wp2_with (refine wpList_store_nums rfl 24 _ _ rfl rfl w.heap.size .u8 _ (walkN x pl a (k + 1 - a)) 24 rfl rfl HC3.out HI.out HL2.out ?_)
      intro w7 hc hb
      have HC7 := Lib.hid (show Blk w.heap.size 24 .u8 (walkN x pl a (k + 1 - a)) w7 from hc.out)
      have HR7 := Lib.hid (HR3.out.but hb.out (by omega))
      have HB7 := Lib.hid (show Below w.heap.size w w7 from But.toBelow HB3.out hb.out (Nat.le_refl _) HB3.out.size)
      have HK7 := Lib.hid (HK3.out.but hb.out HNK.out)
      clear hc hb HC3 HR3 HB3 HK3 HI HL2
      go_wp2_with fail
      exact ⟨⟨k + 1, by go_num, by omega, Or.inr (by omega), HC7.out, HR7.out, HB7.out, HK7.out⟩, by simp [intOf]; omega⟩
    · have e1 : walkN x pl a (k - a) = walkI x pl p q := by rw [HWI.out, show k - a = m.toNat - a by omega]
      rw [e1] at HC
      clear hkm e1
      have HWL := Lib.hid (show (walkI x pl p q).length = 16 by rw [HWI.out]; exact walkN_len HX.out _ _ _)
      have HI := Lib.hid (show (Tryd.prog.info? 24).map (·.size) = some (walkI x pl p q).length by rw [HWL.out]; exact Tryd.infoE)
      have HL2 := Lib.hid (show (List.replicate 16 0).length = (walkI x pl p q).length by rw [HWL.out]; rfl)
      go_wp2_with (first | (refine wpList_load_nums rfl 24 _ rfl w.heap.size .u8 _ 24 _ rfl HC.out Tryd.underlying24 rfl HI.out ?_) | (refine wpList_store_nums rfl 24 _ _ rfl rfl (w.heap.size + 2) .u8 _ (walkI x pl p q) 24 rfl rfl HR.out HI.out HL2.out ?_))
      intro w7 hc hb
      have HC7 := Lib.hid (show Blk (w.heap.size + 2) 24 .u8 (walkI x pl p q) w7 from hc.out)
      have HB7 := Lib.hid (show Below w.heap.size w w7 from But.toBelow HB.out hb.out (by omega) HB.out.size)
      clear hc hb
      go_wp2_with fail
      exact bodyPost_ret (results_nums rfl _ _ (w.heap.size + 2) .u8 _ 24 _ rfl HC7.out Tryd.underlying24 rfl HI.out) rfl ⟨by rw [HP.out], HB7.out⟩
end Go.Proofs.YtjgjgmjdoihmiaaDoor
