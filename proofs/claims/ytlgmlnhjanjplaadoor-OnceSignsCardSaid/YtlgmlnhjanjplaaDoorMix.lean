/-
  The developers' mix: the next block, taken into the state.
-/
import Derived.Test.YtlgmlnhjanjplaaDoorSched
import Derived.Test.YtlgmlnhjanjplaaDoorMixA
import Derived.Test.YtlgmlnhjanjplaaDoorMixB
namespace Go.Proofs.YtlgmlnhjanjplaaDoor
open Go.RowKit

set_option maxHeartbeats 4000000 in
set_option maxRecDepth 100000 in
theorem mix_any (bs bb : Nat) (ts tb : TypeId) (v : S8) (bl : List Nat) (w : World) (hv : v.Ok) (hlen : bl.length = 64) (hbl : ∀ x ∈ bl, x < 256)
    (hs : Blk bs ts .u32 v.list w) (hc : Blk bb tb .u8 bl w) (hk : KAt w) :
    Calls Tryd.prog 41 #[.pointer (some ⟨bs, 0, none⟩), .pointer (some ⟨bb, 0, none⟩)] w fun e w' => e = .returned (.tuple #[]) ∧ Blk bs ts .u32 (block v (bAt bl)).list w' ∧ But bs w w' := by
  have HV := Lib.hid hv
  have HS := Lib.hid hs
  have HK := Lib.hid hk
  have HSC := Lib.hid (schedule_any bb tb bl w hlen hbl hc)
  have HWl := Lib.hid (wl_lt (bAt_lt hbl) 64)
  have HWL := Lib.hid (wl_len (bAt bl) 64)
  have HBL := Lib.hid (show block v (bAt bl) = addS v (rl v (wl (bAt bl) 64) 64) from rfl)
  clear hv hs hk hlen hbl hc
  go_enter Tryd.func41, Tryd.ntmps41
  go_wp2_with fail
  refine HSC.out.mono ?_
  rintro e w1 ⟨rfl, hb⟩
  generalize wl (bAt bl) 64 = Wl at HWl HWL HBL ⊢
  clear HSC
  have HI := Lib.hid (show (Tryd.prog.info? 87).map (·.size) = some (nums .u32 Wl).toArray.size by rw [nums_size, HWL.out]; exact Tryd.infoW)
  have HL2 := Lib.hid (show (nums .u32 (List.replicate 64 0)).toArray.size = (nums .u32 Wl).toArray.size by rw [nums_size, nums_size, HWL.out, List.length_replicate])
  have HZ := Lib.hid (show Blk w1.heap.size 87 .u32 (List.replicate 64 0) (w1.alloc (.cells (nums .u32 (List.replicate 64 0)).toArray 87)) from heap_alloc_new w1 _)
  have HB := Lib.hid hb
  clear hb
  go_wp2_with (refine wpList_store_rowTo rfl 87 _ _ rfl rfl w1.heap.size (nums .u32 Wl).toArray rfl rfl 87 _ HZ.out HI.out HL2.out (nums_all _ _) ?_)
  change Code.wp _ _ _ _ ((w1.alloc (.cells (nums .u32 (List.replicate 64 0)).toArray 87)).setRow w1.heap.size (nums .u32 Wl).toArray)
  obtain ⟨w2, hw2⟩ : ∃ x, x = (w1.alloc (.cells (nums .u32 (List.replicate 64 0)).toArray 87)).setRow w1.heap.size (nums .u32 Wl).toArray := ⟨_, rfl⟩
  rw [← hw2]
  have hsz := HB.out.size
  have HW := Lib.hid (show Blk w1.heap.size 87 .u32 Wl w2 by rw [hw2]; exact HZ.out.row)
  have hb2 : Below w.heap.size w w2 := by rw [hw2]; exact below_setRow (HB.out.alloc hsz _) hsz _
  have HS2 := Lib.hid (HS.out.below hb2)
  have HK2 := Lib.hid (HK.out.below hb2)
  have HB2 := Lib.hid hb2
  have hlt := HS.out.lt
  clear hw2 hb2 HS HK HB HZ HI HL2
  obtain ⟨q0, q1, q2, q3, q4, q5, q6, q7⟩ := v
  have c0 : w2.cell? ⟨bs, 0, none⟩ = some (.int .u32 (q0 : Int)) := HS2.out.cell 0 (by rw [S8.list_len]; omega)
  have c1 : w2.cell? ⟨bs, 1, none⟩ = some (.int .u32 (q1 : Int)) := HS2.out.cell 1 (by rw [S8.list_len]; omega)
  have c2 : w2.cell? ⟨bs, 2, none⟩ = some (.int .u32 (q2 : Int)) := HS2.out.cell 2 (by rw [S8.list_len]; omega)
  have c3 : w2.cell? ⟨bs, 3, none⟩ = some (.int .u32 (q3 : Int)) := HS2.out.cell 3 (by rw [S8.list_len]; omega)
  have c4 : w2.cell? ⟨bs, 4, none⟩ = some (.int .u32 (q4 : Int)) := HS2.out.cell 4 (by rw [S8.list_len]; omega)
  have c5 : w2.cell? ⟨bs, 5, none⟩ = some (.int .u32 (q5 : Int)) := HS2.out.cell 5 (by rw [S8.list_len]; omega)
  have c6 : w2.cell? ⟨bs, 6, none⟩ = some (.int .u32 (q6 : Int)) := HS2.out.cell 6 (by rw [S8.list_len]; omega)
  have c7 : w2.cell? ⟨bs, 7, none⟩ = some (.int .u32 (q7 : Int)) := HS2.out.cell 7 (by rw [S8.list_len]; omega)
  go_quiet (fail)
  clear c0 c1 c2 c3 c4 c5 c6 c7
  go_wp2_with fail
  refine wp_ends (mix_loop1 HV HWl HWL (Lib.hid (HW.out.drawn nq)) (Lib.hid (show KAt (w2.drewN nq) from HK2.out)) _ (Lib.hid ?_))
  rintro p0 p1 p2 p3 p4 p5 p6 p7 w3 ⟨hr, hb3⟩
  intros
  have hok := rl_ok HV.out Wl 64
  rw [hr] at hok
  have HOK := Lib.hid hok
  have HR := Lib.hid hr
  have hb4 : Below w.heap.size w w3 := (drawn_below HB2.out nq).trans (hb3.mono HB2.out.size)
  have HS3 := Lib.hid ((HS2.out.drawn nq).below hb3)
  have HB3 := Lib.hid hb4
  clear hr hb3 hb4 hok HS2 HK2 HB2 HW HWl HWL
  go_wp2_with fail
  refine wp_ends (mix_loop2 (vv := ⟨p0, p1, p2, p3, p4, p5, p6, p7⟩) HV HOK HS3 _ (Lib.hid ?_))
  rintro w4 ⟨ho, hb4⟩
  intros
  have HO := Lib.hid (show Blk bs ts .u32 (block ⟨q0, q1, q2, q3, q4, q5, q6, q7⟩ (bAt bl)).list w4 by rw [HBL.out, HR.out]; exact ho)
  have HB4 := Lib.hid ((But.refl bs w).below HB3.out |>.trans hb4)
  clear ho hb4
  go_wp2_with fail
  exact bodyPost_end (results_none rfl _ _ _) rfl ⟨rfl, HO.out, HB4.out⟩
end Go.Proofs.YtlgmlnhjanjplaaDoor
