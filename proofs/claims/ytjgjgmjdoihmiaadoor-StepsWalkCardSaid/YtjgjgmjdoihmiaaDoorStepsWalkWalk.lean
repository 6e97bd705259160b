/-
  The walk of the law StepsWalk.
-/
import Derived.Test.YtjgjgmjdoihmiaaDoorAlive3
import Derived.Test.YtjgjgmjdoihmiaaDoorWalkR
import Derived.OpenShut
namespace Go.Proofs.YtjgjgmjdoihmiaaDoor.stepsWalk
open Go.RowKit Go.BigFrame

set_option maxHeartbeats 4000000 in
set_option maxRecDepth 100000 in
theorem walk (w : World) (hk : KAt w) (x : List Nat) (hx : x.length = 16) (lx : ∀ d ∈ x, d < 256) (i : Int) (wi : (Lit.int .i64 i).wf = true) (c : Int) (wc : (Lit.int .i64 c).wf = true) (p : Int) (wp : (Lit.int .i64 p).wf = true) (q : Int) (wq : (Lit.int .i64 q).wf = true) :
    Calls Tryd.prog 3 #[.agg (nums .u8 x).toArray, .int .i64 i, .int .i64 c, .int .i64 p, .int .i64 q] w fun e w' => e = .returned (.bool true) ∧ Below w.heap.size w w' := by
  have HK := Lib.hid hk
  have HX := Lib.hid hx
  have LX := Lib.hid lx
  have BI := Lib.hid (bounds_i64 wi)
  have BC := Lib.hid (bounds_i64 wc)
  have BP := Lib.hid (bounds_i64 wp)
  have BQ := Lib.hid (bounds_i64 wq)
  clear hk hx lx wi wc wp wq
  go_enter Tryd.func3, Tryd.ntmps3
  go_upto_region 1 with (fail)
  obtain ⟨w1, hw1⟩ : ∃ x', x' = w.alloc (.cells (nums .u8 x).toArray 22) := ⟨_, rfl⟩
  rw [← hw1]
  have hb1 : Below w.heap.size w w1 := by rw [hw1]; exact (Below.refl _ _).alloc (Nat.le_refl _) _
  have HX1 := Lib.hid (show Blk w.heap.size 22 .u8 x w1 by rw [hw1]; exact heap_alloc_new w _)
  have HB1 := Lib.hid hb1
  have HK1 := Lib.hid (HK.out.below hb1)
  clear hb1 hw1 HK
  go_wp2_with fail
  refine (alive3_any w1 HK1.out).mono ?_
  rintro e w2 ⟨rfl, hb2⟩
  have HX2 := Lib.hid (HX1.out.below hb2)
  have HB2 := Lib.hid (HB1.out.trans (hb2.mono HB1.out.size))
  have HK2 := Lib.hid (HK1.out.below hb2)
  clear hb2 HX1 HB1 HK1
  go_upto_region 3 with (fail)
  have HIX := Lib.hid (show (Tryd.prog.info? 22).map (·.size) = some x.length by rw [HX.out]; kernel_rfl)
  have HWL := Lib.hid (show (walkI x (placeB i c) p q).length = 16 from walkN_len HX.out _ _ _)
  have LWL := Lib.hid (show ∀ d ∈ walkI x (placeB i c) p q, d < 256 from walkN_lt LX.out _ _ _)
  have e1 := fun w => equal_elem (walkI x (placeB i c) p q) (walkI x (placeB i c) p q) HWL.out HWL.out LWL.out LWL.out w
  rw [beq_self_eq_true] at e1
  refine wp_region_class (fun w' => SS w2 w') (by kernel_rfl) (by kernel_rfl) (SS.start HK2.out) ?_
  repeat (first
    | (refine wpQuiet_want (by rfl) (fun K hK => ?_); refine quiet_load_nums 22 _ rfl w.heap.size .u8 x 22 _ rfl (fun w' h => HX2.out.below h.1) Tryd.underlying22 rfl HIX.out ?_; refine hK _ ?_; clear hK K; simp only [Act.put, List.setIfInBounds_toArray, List.set_cons_zero, List.set_cons_succ])
    | go_big_quiet_step ((intro hs; first
        | rfl
        | (go_at_call 9; exact (dev_walk x i c p q _ HX.out LX.out BI.out.1 BI.out.2 BC.out.1 BC.out.2 BP.out.1 BP.out.2 BQ.out.1 BQ.out.2 hs.2).mono fun e w' h => ⟨h.1, hs.next h.2⟩)
        | (go_at_call 10; exact (ref_walk x i c p q _ HX.out LX.out BI.out.1 BI.out.2 BC.out.1 BC.out.2 BP.out.1 BP.out.2 BQ.out.1 BQ.out.2).mono fun e w' h => ⟨h.1, hs.next h.2⟩))))
  refine wpQuiet_nil ?_
  intro w3 hs
  have HB3 := Lib.hid (HB2.out.trans (hs.1.mono HB2.out.size))
  clear hs e1
  go_wp2_with fail
  go_ret
  exact ⟨rfl, HB3.out⟩
end Go.Proofs.YtjgjgmjdoihmiaaDoor.stepsWalk
