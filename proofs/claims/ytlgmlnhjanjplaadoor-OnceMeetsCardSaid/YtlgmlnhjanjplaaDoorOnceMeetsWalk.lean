/-
  The walk of the law OnceMeets.
-/
import Derived.Test.YtlgmlnhjanjplaaDoorAlive4
namespace Go.Proofs.YtlgmlnhjanjplaaDoor.onceMeets
open Go.RowKit Go.BigFrame

set_option maxHeartbeats 1000000 in
set_option maxRecDepth 100000 in
theorem walk (w : World) (hk : KAt w) (s : List UInt8) (hs : s.length ≤ 140737488351232) (i : Int) (wi : (Lit.int .i64 i).wf = true) (d : List Nat) (hd : d.length = 16) (ld : ∀ y ∈ d, y < 256) :
    Calls Tryd.prog 5 #[.string ⟨s.toArray⟩, .int .i64 i, .agg (nums .u8 d).toArray] w fun e w' => e = .returned (.bool true) ∧ Below w.heap.size w w' := by
  have HK := Lib.hid hk
  have BI := Lib.hid (bounds_i64 wi)
  have HD := Lib.hid hd
  have LD := Lib.hid ld
  clear hk wi hd ld
  go_enter Tryd.func5, Tryd.ntmps5
  go_upto_region 1 with (fail)
  obtain ⟨w1, hw1⟩ : ∃ x', x' = w.alloc (.cells (nums .u8 d).toArray 23) := ⟨_, rfl⟩
  rw [← hw1]
  have hb1 : Below w.heap.size w w1 := by rw [hw1]; exact (Below.refl _ _).alloc (Nat.le_refl _) _
  have HD1 := Lib.hid (show Blk w.heap.size 23 .u8 d w1 by rw [hw1]; exact heap_alloc_new w _)
  have HB1 := Lib.hid hb1
  have HK1 := Lib.hid (HK.out.below hb1)
  have HI := Lib.hid (show (Tryd.prog.info? 23).map (·.size) = some d.length by rw [HD.out]; kernel_rfl)
  clear hb1 hw1 HK
  go_wp2_with fail
  refine (alive4_any w1 HK1.out).mono ?_
  rintro e w2 ⟨rfl, hb2⟩
  have HD2 := Lib.hid (HD1.out.below hb2)
  have HB2 := Lib.hid (HB1.out.trans (hb2.mono HB1.out.size))
  have HK2 := Lib.hid (HK1.out.below hb2)
  clear hb2 HD1 HB1 HK1
  by_cases hlong : 1024 < s.length
  · have hl2 : (1024 : Int) < s.length := by omega
    go_wp2_with fail
    go_ret
    exact ⟨rfl, HB2.out⟩
  · have hl2 : ¬ (1024 : Int) < s.length := by omega
    clear hlong
    -- what both answer
    have key : ∃ (Y : List Nat) (b : Bool) (n : Int), Y.length = 16 ∧ (∀ y ∈ Y, y < 256) ∧ (b = true ∧ n = 0 ∨ b = false ∧ n = 4) ∧
        (∀ w, KAt w → Calls Tryd.prog 14 #[.string ⟨s.toArray⟩, .int .i64 i, .agg (nums .u8 d).toArray] w fun e w' => e = .returned (.tuple #[.agg (nums .u8 Y).toArray, .int .i64 n]) ∧ Below w.heap.size w w') ∧
        (∀ w, Calls Tryd.prog 16 #[.string ⟨s.toArray⟩, .int .i64 i, .agg (nums .u8 d).toArray] w fun e w' => e = .returned (.tuple #[.agg (nums .u8 Y).toArray, .bool b]) ∧ Below w.heap.size w w') := by
      by_cases h560 : s.length = 560
      · exact ⟨meetN s i d, true, 0, keyN_len _ _, keyN_lt _ _, Or.inl ⟨rfl, rfl⟩, fun w hk => dev_meet s i d w h560 BI.out.1 BI.out.2 HD.out LD.out hk, fun w => ref_meet s i d w h560 BI.out.1 BI.out.2 HD.out LD.out⟩
      · exact ⟨List.replicate 16 0, false, 4, rfl, by decide, Or.inr ⟨rfl, rfl⟩, fun w _ => dev_meet_not s i d w h560, fun w => ref_meet_not s i d w h560⟩
    obtain ⟨Y, b, n, hYL, hYT, hbn, hdev, href⟩ := key
    have YL := Lib.hid hYL
    have DEV := Shut.mk hdev
    have REF := Shut.mk href
    have e2 := fun w => equal_elem Y Y hYL hYL hYT hYT w
    rw [beq_self_eq_true] at e2
    clear hYL hYT hdev href
    have HIY := Lib.hid (show (Tryd.prog.info? 24).map (·.size) = some Y.length by rw [YL.out]; exact Tryd.infoE)
    have HL2 := Lib.hid (show (List.replicate 16 0).length = Y.length by rw [YL.out]; rfl)
    go_wp2_with (refine wpList_load_nums rfl 23 _ rfl w.heap.size .u8 _ 23 _ rfl HD2.out Tryd.underlying23 rfl HI.out ?_)
    refine (DEV.out w2 HK2.out).mono ?_
    rintro e w4 ⟨rfl, hb4⟩
    have HD4 := Lib.hid (HD2.out.below hb4)
    have HB4 := Lib.hid (HB2.out.trans (hb4.mono HB2.out.size))
    clear hb4 HD2 HB2 HK2
    have HX := Lib.hid (show Blk w4.heap.size 24 .u8 (List.replicate 16 0) (w4.alloc (.cells (nums .u8 (List.replicate 16 0)).toArray 24)) from heap_alloc_new w4 _)
    go_wp2_with (refine wpList_store_nums rfl 24 _ _ rfl rfl w4.heap.size .u8 _ Y 24 rfl rfl HX.out HIY.out HL2.out ?_)
    intro w5 hc hb
    have HX5 := Lib.hid (show Blk w4.heap.size 24 .u8 Y w5 from hc.out)
    have hb5 : Below w4.heap.size w4 w5 := But.toBelow ((Below.refl _ w4).alloc (Nat.le_refl _) _) hb.out (Nat.le_refl _) (by simp)
    have HD5 := Lib.hid (HD4.out.below hb5)
    have HB5 := Lib.hid (HB4.out.trans (hb5.mono HB4.out.size))
    obtain ⟨gx, hgx⟩ : ∃ g, g = w4.heap.size := ⟨_, rfl⟩
    rw [← hgx] at HX5 ⊢
    clear hc hb hb5 HX HD4 HB4 hgx
    go_wp2_with (refine wpList_load_nums rfl 23 _ rfl w.heap.size .u8 _ 23 _ rfl HD5.out Tryd.underlying23 rfl HI.out ?_)
    refine (REF.out w5).mono ?_
    rintro e w6 ⟨rfl, hb6⟩
    have HX6 := Lib.hid (HX5.out.below hb6)
    have HB6 := Lib.hid (HB5.out.trans (hb6.mono HB5.out.size))
    clear hb6 HX5 HB5 HD5
    have HZ := Lib.hid (show Blk w6.heap.size 24 .u8 (List.replicate 16 0) (w6.alloc (.cells (nums .u8 (List.replicate 16 0)).toArray 24)) from heap_alloc_new w6 _)
    go_wp2_with (refine wpList_store_nums rfl 24 _ _ rfl rfl w6.heap.size .u8 _ Y 24 rfl rfl HZ.out HIY.out HL2.out ?_)
    intro w7 hc hb
    have HZ7 := Lib.hid (show Blk w6.heap.size 24 .u8 Y w7 from hc.out)
    have hb7 : Below w6.heap.size w6 w7 := But.toBelow ((Below.refl _ w6).alloc (Nat.le_refl _) _) hb.out (Nat.le_refl _) (by simp)
    have HX7 := Lib.hid (HX6.out.below hb7)
    have HB7 := Lib.hid (HB6.out.trans (hb7.mono HB6.out.size))
    obtain ⟨gz, hgz⟩ : ∃ g, g = w6.heap.size := ⟨_, rfl⟩
    rw [← hgz] at HZ7 ⊢
    clear hc hb hb7 HZ HX6 HB6 hgz
    go_upto_region 7 with (fail)
    refine wp_region_lit ?_
    refine wpList_load_nums rfl 24 _ rfl gx .u8 _ 24 _ rfl HX7.out Tryd.underlying24 rfl HIY.out ?_
    simp only [Act.put, List.setIfInBounds_toArray, List.set_cons_zero, List.set_cons_succ]
    refine wpList_load_nums rfl 24 _ rfl gz .u8 _ 24 _ rfl HZ7.out Tryd.underlying24 rfl HIY.out ?_
    simp only [Act.put, List.setIfInBounds_toArray, List.set_cons_zero, List.set_cons_succ]
    rcases hbn with ⟨rfl, rfl⟩ | ⟨rfl, rfl⟩
    · go_wp2_with fail
      go_ret
      exact ⟨rfl, HB7.out⟩
    · go_wp2_with fail
      go_ret
      exact ⟨rfl, HB7.out⟩
end Go.Proofs.YtlgmlnhjanjplaaDoor.onceMeets
