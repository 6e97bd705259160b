/-
  Walk, the document's.
-/
import Derived.Test.YtjgjgmjdoihmiaaDoorNextR
namespace Go.Proofs.YtjgjgmjdoihmiaaDoor
open Go.RowKit Go.BigFrame

set_option maxHeartbeats 4000000 in
set_option maxRecDepth 100000 in
theorem ref_walk (x : List Nat) (i c p q : Int) (w : World) (hx : x.length = 16) (hl : ∀ y ∈ x, y < 256) (hi0 : -9223372036854775808 ≤ i) (hi : i ≤ 9223372036854775807) (hc0 : -9223372036854775808 ≤ c) (hc : c ≤ 9223372036854775807)
    (hp0 : -9223372036854775808 ≤ p) (hp : p ≤ 9223372036854775807) (hq0 : -9223372036854775808 ≤ q) (hq : q ≤ 9223372036854775807) :
    Calls Tryd.prog 10 #[.agg (nums .u8 x).toArray, .int .i64 i, .int .i64 c, .int .i64 p, .int .i64 q] w fun e w' => e = .returned (.agg (nums .u8 (walkI x (placeB i c) p q)).toArray) ∧ Below w.heap.size w w' := by
  have HX := Lib.hid hx
  have HL := Lib.hid hl
  clear hx hl
  go_enter Tryd.func10, Tryd.ntmps10
  go_upto_region 1 with (fail)
  change Code.wp _ _ _ _ ((w.alloc (.cells (nums .u8 x).toArray 24)).alloc (.cells (nums .u8 (List.replicate 16 0)).toArray 24))
  obtain ⟨w2, hw1⟩ : ∃ x', x' = (w.alloc (.cells (nums .u8 x).toArray 24)).alloc (.cells (nums .u8 (List.replicate 16 0)).toArray 24) := ⟨_, rfl⟩
  rw [← hw1]
  have h3 : Blk w.heap.size 24 .u8 x w2 ∧ Blk (w.heap.size + 1) 24 .u8 (List.replicate 16 0) w2 ∧ Below w.heap.size w w2 := by rw [hw1]; exact two_new w _ _ _ _
  obtain ⟨hx1, hr1, hb1⟩ := h3
  have HX2 := Lib.hid hx1
  have HR2 := Lib.hid hr1
  have HB2 := Lib.hid hb1
  clear hx1 hr1 hb1 hw1
  have HWI := Lib.hid (show walkI x (placeB i c) p q = walkN x (placeB i c) (max p 0).toNat ((min q 15).toNat - (max p 0).toNat) from rfl)
  obtain ⟨a, ha⟩ : ∃ n : Nat, max p 0 = n := ⟨p.toNat, by omega⟩
  obtain ⟨m, hm⟩ : ∃ m : Int, min q 15 = m := ⟨_, rfl⟩
  have ha2 : a < 9223372036854775808 := by omega
  have hm2 : m ≤ 15 := by omega
  rw [ha, hm, Int.toNat_natCast] at HWI
  have hm0 : -9223372036854775808 ≤ m := by omega
  obtain ⟨pl, hpl⟩ : ∃ pl, placeB i c = pl := ⟨_, rfl⟩
  rw [hpl] at HWI
  have HP := Lib.hid hpl
  clear hpl
  have HI0 := Lib.hid hi0
  have HI1 := Lib.hid hi
  have HC0 := Lib.hid hc0
  have HC1 := Lib.hid hc
  clear hi0 hi hc0 hc
  by_cases hpn : p < 0
  all_goals by_cases hqn : 15 < q
  all_goals go_wp2_with fail
  all_goals (try rw [show (15 : Int) = m by omega])
  all_goals (try rw [show q = m by omega])
  all_goals (try rw [show (0 : Int) = (a : Int) by omega])
  all_goals (try rw [show p = (a : Int) by omega])
  all_goals clear ha hm hpn hqn hp0 hp hq0 hq
  all_goals go_loopw [11] (fun n wq => ∃ k : Nat, n = .int .i64 k ∧ a ≤ k ∧ (k = a ∨ (k : Int) ≤ m) ∧ Blk w.heap.size 24 .u8 (walkN x pl a (k - a)) wq ∧ Blk (w.heap.size + 1) 24 .u8 (List.replicate 16 0) wq ∧ Below w.heap.size w wq) (fun n _ => (m - intOf n).toNat)
  all_goals first
    | exact ⟨a, rfl, Nat.le_refl _, Or.inl rfl, by rw [Nat.sub_self]; exact HX2.out, HR2.out, HB2.out⟩
    | skip
  all_goals (
    clear HX2 HR2 HB2
    obtain ⟨k, rfl, hak, hkm, hc, hr, hb⟩ := hrel
    have HC := Lib.hid hc
    have HR := Lib.hid hr
    have HB := Lib.hid hb
    clear hc hr hb
    by_cases hlk : (k : Int) < m
    · clear hkm
      have HI := Lib.hid (show (Tryd.prog.info? 24).map (·.size) = some (walkN x pl a (k - a)).length by rw [walkN_len HX.out]; exact Tryd.infoE)
      go_wp2_with (refine wpList_load_nums rfl 24 _ rfl w.heap.size .u8 _ 24 _ rfl HC.out Tryd.underlying24 rfl HI.out ?_)
      refine (ref_next (walkN x pl a (k - a)) i c k wr (walkN_len HX.out _ _ _) (walkN_lt HL.out _ _ _) HI0.out HI1.out HC0.out HC1.out (by omega) (by omega)).mono ?_
      rintro e w3 ⟨rfl, hb3⟩
      rw [HP.out, Int.toNat_natCast, show nextN (walkN x pl a (k - a)) k pl = walkN x pl a (k + 1 - a) by rw [show k + 1 - a = (k - a) + 1 by omega, walkN, show a + (k - a) = k by omega]]
      have HC3 := Lib.hid (HC.out.below hb3)
      have HR3 := Lib.hid (HR.out.below hb3)
      have HB3 := Lib.hid (HB.out.trans (hb3.mono HB.out.size))
      clear hb3 HC HR HB HI
      have HI := Lib.hid (show (Tryd.prog.info? 24).map (·.size) = some (walkN x pl a (k + 1 - a)).length by rw [walkN_len HX.out]; exact Tryd.infoE)
      have HL2 := Lib.hid (show (walkN x pl a (k - a)).length = (walkN x pl a (k + 1 - a)).length by rw [walkN_len HX.out, walkN_len HX.out])
      go_wp2_with (refine wpList_store_nums rfl 24 _ _ rfl rfl w.heap.size .u8 _ (walkN x pl a (k + 1 - a)) 24 rfl rfl HC3.out HI.out HL2.out ?_)
      intro w7 hc hb
      have HC7 := Lib.hid (show Blk w.heap.size 24 .u8 (walkN x pl a (k + 1 - a)) w7 from hc.out)
      have HR7 := Lib.hid (HR3.out.but hb.out (by omega))
      have HB7 := Lib.hid (show Below w.heap.size w w7 from But.toBelow HB3.out hb.out (Nat.le_refl _) HB3.out.size)
      clear hc hb HC3 HR3 HB3 HI HL2
      go_wp2_with fail
      exact ⟨⟨k + 1, by go_num, by omega, Or.inr (by omega), HC7.out, HR7.out, HB7.out⟩, by simp [intOf]; omega⟩
    · have e1 : walkN x pl a (k - a) = walkI x pl p q := by rw [HWI.out, show k - a = m.toNat - a by omega]
      rw [e1] at HC
      clear hkm e1
      have HWL := Lib.hid (show (walkI x pl p q).length = 16 by rw [HWI.out]; exact walkN_len HX.out _ _ _)
      have HI := Lib.hid (show (Tryd.prog.info? 24).map (·.size) = some (walkI x pl p q).length by rw [HWL.out]; exact Tryd.infoE)
      have HL2 := Lib.hid (show (List.replicate 16 0).length = (walkI x pl p q).length by rw [HWL.out]; rfl)
      go_wp2_with (first | (refine wpList_load_nums rfl 24 _ rfl w.heap.size .u8 _ 24 _ rfl HC.out Tryd.underlying24 rfl HI.out ?_) | (refine wpList_store_nums rfl 24 _ _ rfl rfl (w.heap.size + 1) .u8 _ (walkI x pl p q) 24 rfl rfl HR.out HI.out HL2.out ?_))
      intro w7 hc hb
      have HC7 := Lib.hid (show Blk (w.heap.size + 1) 24 .u8 (walkI x pl p q) w7 from hc.out)
      have HB7 := Lib.hid (show Below w.heap.size w w7 from But.toBelow HB.out hb.out (by omega) HB.out.size)
      clear hc hb
      go_wp2_with fail
      exact bodyPost_ret (results_nums rfl _ _ (w.heap.size + 1) .u8 _ 24 _ rfl HC7.out Tryd.underlying24 rfl HI.out) rfl ⟨by rw [HP.out], HB7.out⟩)
end Go.Proofs.YtjgjgmjdoihmiaaDoor
