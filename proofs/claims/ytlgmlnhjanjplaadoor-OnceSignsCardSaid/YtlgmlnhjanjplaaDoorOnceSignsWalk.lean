/-
  The walk of the law OnceSigns.
-/
import Derived.Test.YtlgmlnhjanjplaaDoorAlive4
namespace Go.Proofs.YtlgmlnhjanjplaaDoor.onceSigns
open Go.RowKit Go.BigFrame

set_option maxHeartbeats 1000000 in
set_option maxRecDepth 100000 in
theorem walk (w : World) (hk : KAt w) (s : List UInt8) (hs : s.length ≤ 140737488351232) (i : Int) (wi : (Lit.int .i64 i).wf = true) (d : List Nat) (hd : d.length = 16) (ld : ∀ y ∈ d, y < 256) :
    Calls Tryd.prog 4 #[.string ⟨s.toArray⟩, .int .i64 i, .agg (nums .u8 d).toArray] w fun e w' => e = .returned (.bool true) ∧ Below w.heap.size w w' := by
  have HK := Lib.hid hk
  have BI := Lib.hid (bounds_i64 wi)
  have HD := Lib.hid hd
  have LD := Lib.hid ld
  clear hk wi hd ld
  go_enter Tryd.func4, Tryd.ntmps4
  go_upto_region 1 with (fail)
  obtain ⟨w1, hw1⟩ : ∃ x', x' = w.alloc (.cells (nums .u8 d).toArray 23) := ⟨_, rfl⟩
  rw [← hw1]
  have hb1 : Below w.heap.size w w1 := by rw [hw1]; exact (Below.refl _ _).alloc (Nat.le_refl _) _
  have HD1 := Lib.hid (show Blk w.heap.size 23 .u8 d w1 by rw [hw1]; exact heap_alloc_new w _)
  have HB1 := Lib.hid hb1
  have HK1 := Lib.hid (HK.out.below hb1)
  have HI := Lib.hid (show (Tryd.prog.info? 23).map (·.size) = some d.length by rw [HD.out]; kernel_rfl)
  clear hb1 hw1 HK
  go_wp2_with fail
  refine (alive4_any w1 HK1.out).mono ?_
  rintro e w2 ⟨rfl, hb2⟩
  have HD2 := Lib.hid (HD1.out.below hb2)
  have HB2 := Lib.hid (HB1.out.trans (hb2.mono HB1.out.size))
  have HK2 := Lib.hid (HK1.out.below hb2)
  clear hb2 HD1 HB1 HK1
  by_cases hlong : 512 < s.length
  · have hl2 : (512 : Int) < s.length := by omega
    go_wp2_with fail
    go_ret
    exact ⟨rfl, HB2.out⟩
  · have hl2 : ¬ (512 : Int) < s.length := by omega
    have HS := Lib.hid (show s.length ≤ 4000 by omega)
    have GL := Lib.hid (signN_len s i d)
    have YL := keyN_len (rowE (endF s i) 35) i
    have YT := keyN_lt (rowE (endF s i) 35) i
    obtain ⟨G, hG⟩ : ∃ G, signN s i d = G := ⟨_, rfl⟩
    have hm := meet_sign s i HD.out LD.out
    rw [hG] at hm
    obtain ⟨Y, hY⟩ : ∃ Y, leafN s i = Y := ⟨_, rfl⟩
    rw [show keyN (rowE (endF s i) 35) i = leafN s i from rfl, hY] at YL YT
    rw [hG] at GL
    rw [hY] at hm
    have HM := Shut.mk hm
    have HG := Shut.mk hG
    have HY := Shut.mk hY
    have e2 := fun w => equal_elem Y Y YL YL YT YT w
    rw [beq_self_eq_true] at e2
    have YL' := Lib.hid YL
    clear hG hY YT YL hlong hm
    go_upto_region 5 with (fail)
    go_wp2_with (refine wpList_load_nums rfl 23 _ rfl w.heap.size .u8 _ 23 _ rfl HD2.out Tryd.underlying23 rfl HI.out ?_)
    refine (dev_sign s i d w2 HS.out BI.out.1 BI.out.2 HD.out LD.out HK2.out).mono ?_
    rintro e w3 ⟨rfl, hb3⟩
    rw [HG.out]
    have HD3 := Lib.hid (HD2.out.below hb3)
    have HB3 := Lib.hid (HB2.out.trans (hb3.mono HB2.out.size))
    have HK3 := Lib.hid (HK2.out.below hb3)
    clear hb3 HD2 HB2 HK2
    go_wp2_with (refine wpList_load_nums rfl 23 _ rfl w.heap.size .u8 _ 23 _ rfl HD3.out Tryd.underlying23 rfl HI.out ?_)
    refine (dev_meet G i d w3 GL.out BI.out.1 BI.out.2 HD.out LD.out HK3.out).mono ?_
    rintro e w4 ⟨rfl, hb4⟩
    rw [HM.out]
    have HD4 := Lib.hid (HD3.out.below hb4)
    have HB4 := Lib.hid (HB3.out.trans (hb4.mono HB3.out.size))
    have HK4 := Lib.hid (HK3.out.below hb4)
    clear hb4 HD3 HB3 HK3
    have HX := Lib.hid (show Blk w4.heap.size 24 .u8 (List.replicate 16 0) (w4.alloc (.cells (nums .u8 (List.replicate 16 0)).toArray 24)) from heap_alloc_new w4 _)
    have HIY := Lib.hid (show (Tryd.prog.info? 24).map (·.size) = some Y.length by rw [YL'.out]; exact Tryd.infoE)
    have HL2 := Lib.hid (show (List.replicate 16 0).length = Y.length by rw [YL'.out]; rfl)
    go_wp2_with (refine wpList_store_nums rfl 24 _ _ rfl rfl w4.heap.size .u8 _ Y 24 rfl rfl HX.out HIY.out HL2.out ?_)
    intro w5 hc hb
    have HX5 := Lib.hid (show Blk w4.heap.size 24 .u8 Y w5 from hc.out)
    have hb5 : Below w4.heap.size w4 w5 := But.toBelow ((Below.refl _ w4).alloc (Nat.le_refl _) _) hb.out (Nat.le_refl _) (by simp)
    have HD5 := Lib.hid (HD4.out.below hb5)
    have HB5 := Lib.hid (HB4.out.trans (hb5.mono HB4.out.size))
    have HK5 := Lib.hid (HK4.out.below hb5)
    obtain ⟨gx, hgx⟩ : ∃ g, g = w4.heap.size := ⟨_, rfl⟩
    rw [← hgx] at HX5 ⊢
    clear hc hb hb5 HX HL2 HD4 HB4 HK4 hgx
    go_upto_region 7 with (fail)
    refine wp_region_class (fun w' => SS w5 w') (by kernel_rfl) (by kernel_rfl) (SS.start HK5.out) ?_
    repeat (first
      | (refine wpQuiet_want (by rfl) (fun K hK => ?_); refine quiet_load_nums 23 _ rfl w.heap.size .u8 d 23 _ rfl (fun w' h => HD5.out.below h.1) Tryd.underlying23 rfl HI.out ?_; refine hK _ ?_; clear hK K; simp only [Act.put, List.setIfInBounds_toArray, List.set_cons_zero, List.set_cons_succ])
      | (refine wpQuiet_want (by rfl) (fun K hK => ?_); refine quiet_load_nums 24 _ rfl gx .u8 Y 24 _ rfl (fun w' h => HX5.out.below h.1) Tryd.underlying24 rfl HIY.out ?_; refine hK _ ?_; clear hK K; simp only [Act.put, List.setIfInBounds_toArray, List.set_cons_zero, List.set_cons_succ])
      | go_big_quiet_step ((intro hs'; first
          | rfl
          | (go_at_call 15; exact (ref_sign s i d _ HS.out BI.out.1 BI.out.2 HD.out LD.out).mono fun e w' h => ⟨h.1.trans (by rw [HG.out]), hs'.next h.2⟩)
          | (go_at_call 11; exact (dev_leaf s i _ HS.out BI.out.1 BI.out.2 hs'.2).mono fun e w' h => ⟨h.1.trans (by rw [HY.out]), hs'.next h.2⟩))))
    refine wpQuiet_nil ?_
    intro w6 hs6
    have HB6 := Lib.hid (HB5.out.trans (hs6.1.mono HB5.out.size))
    clear hs6 e2
    go_wp2_with fail
    go_ret
    exact ⟨rfl, HB6.out⟩
end Go.Proofs.YtlgmlnhjanjplaaDoor.onceSigns
