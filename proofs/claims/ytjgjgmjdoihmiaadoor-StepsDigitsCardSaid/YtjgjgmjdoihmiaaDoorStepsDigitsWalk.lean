/-
  The walk of the law StepsDigits.
-/
import Derived.Test.YtjgjgmjdoihmiaaDoorAlive3
import Derived.Test.YtjgjgmjdoihmiaaDoorDigR
import Derived.Test.YtjgjgmjdoihmiaaDoorFree
namespace Go.Proofs.YtjgjgmjdoihmiaaDoor.stepsDigits
open Go.RowKit Go.BigFrame

set_option maxHeartbeats 4000000 in
set_option maxRecDepth 100000 in
theorem walk (w : World) (hk : KAt w) (x : List Nat) (hx : x.length = 16) (lx : ∀ d ∈ x, d < 256) :
    Calls Tryd.prog 4 #[.agg (nums .u8 x).toArray] w fun e w' => e = .returned (.bool true) ∧ Below w.heap.size w w' := by
  have HK := Lib.hid hk
  have HX := Lib.hid hx
  have LX := Lib.hid lx
  clear hk hx lx
  go_enter Tryd.func4, Tryd.ntmps4
  go_upto_region 1 with (fail)
  obtain ⟨w1, hw1⟩ : ∃ x', x' = w.alloc (.cells (nums .u8 x).toArray 22) := ⟨_, rfl⟩
  rw [← hw1]
  have hb1 : Below w.heap.size w w1 := by rw [hw1]; exact (Below.refl _ _).alloc (Nat.le_refl _) _
  have HX1 := Lib.hid (show Blk w.heap.size 22 .u8 x w1 by rw [hw1]; exact heap_alloc_new w _)
  have HB1 := Lib.hid hb1
  have HK1 := Lib.hid (HK.out.below hb1)
  clear hb1 hw1 HK
  go_wp2_with fail
  refine (alive3_any w1 HK1.out).mono ?_
  rintro e w2 ⟨rfl, hb2⟩
  have HX2 := Lib.hid (HX1.out.below hb2)
  have HB2 := Lib.hid (HB1.out.trans (hb2.mono HB1.out.size))
  clear hb2 HX1 HB1 HK1
  go_upto_region 3 with (fail)
  have HIX := Lib.hid (show (Tryd.prog.info? 22).map (·.size) = some x.length by rw [HX.out]; kernel_rfl)
  have HAL := Lib.hid (show ∀ w : World, (Instr.alloc 30 true (.tuple #[])).run Tryd.prog w = .ok (.pointer (some ⟨w.heap.size, 0, none⟩)) (w.alloc (.cells (nums .i64 (List.replicate 35 0)).toArray 30)) from fun w => by kernel_rfl)
  refine wp_region_free 5 (fun s V w' => Below w2.heap.size w2 w' ∧ Val s V 0 (.agg (nums .u8 x).toArray) ∧ Val s V 1 (.agg (nums .i64 (digN x)).toArray) ∧ Val s V 2 (.agg (nums .u8 x).toArray) ∧ Row s V w2.heap.size 3 35 3 .i64 (digN x) w' ∧ New s V w2.heap.size 4 30 .i64 (List.replicate 35 0) w' ∧ Far s V 3 4) (fun _ => undef) (by kernel_rfl) (by kernel_rfl) (by kernel_rfl) rfl ⟨(Below.refl _ _).drew, Val.none, Val.none, Val.none, Row.none, New.none, Far.none⟩ ?_ ?_
  · simp only [List.take_succ_cons, List.take_zero, putAll, Nat.zero_add, Nat.reduceAdd, Act.put, List.setIfInBounds_toArray, List.set_cons_zero, List.set_cons_succ]
    refine FreeSteps.cons ?_ (FreeSteps.cons ?_ (FreeSteps.cons ?_ (FreeSteps.cons ?_ (FreeSteps.cons ?_ FreeSteps.nil))))
    all_goals (refine FreeStep.plain rfl ?_; rintro s V wq hr ⟨hB, h0, h1, h2, h3, h4, h5⟩ K hK)
    · exact op_load_nums 22 (.tmp 1) rfl w.heap.size .u8 x 22 _ rfl (HX2.out.below hB) Tryd.underlying22 rfl HIX.out (hK _ _ ⟨hB, .same, h1.ne (by decide), h2.ne (by decide), h3.ne (by decide) (Below.refl _ _), h4.ne (by decide) (Below.refl _ _), h5.ne (by decide) (by decide)⟩)
    · refine op_call Tryd.func11 rfl rfl rfl [.agg (nums .u8 x).toArray] (congrArg (fun v => [v]) (h0 (hr { on := 0, ground := .data } (by simp) rfl))) (dev_digits x wq HX.out LX.out) ?_
      rintro e w' ⟨rfl, hb⟩
      exact ⟨_, rfl, hK _ _ ⟨hB.trans (hb.mono hB.size), h0.ne (by decide), .same, h2.ne (by decide), h3.ne (by decide) hb, h4.ne (by decide) hb, h5.ne (by decide) (by decide)⟩⟩
    · exact op_load_nums 22 (.tmp 1) rfl w.heap.size .u8 x 22 _ rfl (HX2.out.below hB) Tryd.underlying22 rfl HIX.out (hK _ _ ⟨hB, h0.ne (by decide), h1.ne (by decide), .same, h3.ne (by decide) (Below.refl _ _), h4.ne (by decide) (Below.refl _ _), h5.ne (by decide) (by decide)⟩)
    · refine op_call Tryd.func12 rfl rfl rfl [.agg (nums .u8 x).toArray] (congrArg (fun v => [v]) (h2 (hr { on := 2, ground := .data } (by simp) rfl))) (ref_digits x wq HX.out LX.out) ?_
      rintro e w' ⟨ao, c, rfl, ho, hb⟩
      exact ⟨_, rfl, hK _ _ ⟨hB.trans (hb.mono hB.size), h0.ne (by decide), h1.ne (by decide), h2.ne (by decide), .same (ho.mono hB.size), h4.ne (by decide) hb, .left h4 (by decide) ho⟩⟩
    · have hb : Below wq.heap.size wq (wq.alloc (.cells (nums .i64 (List.replicate 35 0)).toArray 30)) := (Below.refl _ _).alloc (Nat.le_refl _) _
      exact op_alloc 30 rfl _ HAL.out (hK _ _ ⟨hB.trans (hb.mono hB.size), h0.ne (by decide), h1.ne (by decide), h2.ne (by decide), h3.ne (by decide) hb, .same hB.size, .right h3 (by decide)⟩)
  · rintro s V w3 hall ⟨hB, h0, h1, h2, h3, h4, h5⟩
    have v0 := h0 (hall 0 (by decide))
    have v1 := h1 (hall 1 (by decide))
    have v2 := h2 (hall 2 (by decide))
    obtain ⟨ao, cp, v3, ho⟩ := h3 (hall 3 (by decide))
    have hn : NumsAt ao .i64 (digN x) w3 := OwnN.at (by rw [digN_len HX.out]; exact ho)
    obtain ⟨ga, v4, hga, ha⟩ := h4 (hall 4 (by decide))
    obtain ⟨b, o, rfl, hcell⟩ : ∃ b o, ao = some ⟨b, o, none⟩ ∧ ∀ q, q < 35 → w3.cell? ⟨b, o + q, none⟩ = some (.int .i64 (((digN x).getD q 0 : Nat) : Int)) := by
      rcases hn with h | ⟨b, o, ha, _, hc⟩
      · have := digN_len HX.out
        rw [h] at this
        cases this
      · refine ⟨b, o, ha, fun q hq => ?_⟩
        have hq' : q < (digN x).length := by rw [digN_len HX.out]; exact hq
        rw [hc q hq', List.getD_eq_getElem?_getD, List.getElem?_eq_getElem hq']
        rfl
    have hfar : b ≠ ga := fun e => h5 (hall 3 (by decide)) (hall 4 (by decide)) b (by rw [v3]; rfl) (by rw [v4, e])
    have hbl : b < w3.heap.size := block_lt_of_cell (hcell 0 (by decide))
    simp only [List.take_succ_cons, List.take_zero, List.drop_succ_cons, List.drop_zero, putAll, Nat.zero_add, Nat.reduceAdd, v0, v1, v2, v3, v4, Act.put, List.setIfInBounds_toArray, List.set_cons_zero, List.set_cons_succ]
    clear h0 h1 h2 h3 h4 h5 ho hn v0 v1 v2 v3 v4 hall HAL
    have HB3 := Lib.hid (HB2.out.trans (hB.mono HB2.out.size))
    have HA := Lib.hid ha
    have HGA := Lib.hid (show w.heap.size < ga by have := HX2.out.lt; omega)
    have HCE := Lib.hid hcell
    have HBL := Lib.hid hbl
    have HFA := Lib.hid hfar
    clear hB ha hga hcell hbl hfar HX2 HB2
    have HLX := Lib.hid (digN_len HX.out)
    have HIP := Lib.hid (show (Tryd.prog.info? 30).map (·.size) = some (digN x).length by rw [digN_len HX.out]; exact Tryd.infoDg)
    have HLP := Lib.hid (show (List.replicate 35 0).length = (digN x).length by rw [digN_len HX.out]; rfl)
    go_wp2_with (refine wpList_store_nums rfl 30 _ _ rfl rfl ga .i64 _ (digN x) 30 rfl rfl HA.out HIP.out HLP.out ?_)
    intro w4 hc hb
    have HB4 := Lib.hid (But.toBelow HB3.out hb.out (by have := HGA.out; omega) HB3.out.size)
    have HA4 := Lib.hid (show Blk ga 30 .i64 (digN x) w4 from hc.out)
    have HCE4 := Lib.hid (show ∀ q, q < 35 → w4.cell? ⟨b, o + q, none⟩ = some (.int .i64 (((digN x).getD q 0 : Nat) : Int)) from fun q hq => (World.cell?_of_block (w := w3) (a := ⟨b, o + q, none⟩) (hb.out.block b HBL.out HFA.out)).trans (HCE.out q hq))
    clear hc hb HB3 HA HCE HBL HIP HLP
    generalize digN x = D at *
    go_wp2_with fail
    go_loop [15] (fun i => ∃ k : Nat, k ≤ 35 ∧ i = .int .i64 k) (fun i => 35 - (intOf i).toNat)
    case atStart => exact ⟨0, by omega, rfl⟩
    case round =>
      obtain ⟨k, hk, rfl⟩ := hrel
      by_cases hlk : k < 35
      · have c1 := HA4.out.cell k (by rw [HLX.out]; exact hlk)
        have c2 := HCE4.out k hlk
        generalize D.getD k 0 = a at c1 c2
        go_wp2_with fail
        exact ⟨⟨k + 1, by omega, by go_num⟩, by simp [intOf]; omega⟩
      · obtain rfl : k = 35 := by omega
        go_wp2_with fail
        go_ret
        exact ⟨rfl, HB4.out⟩
end Go.Proofs.YtjgjgmjdoihmiaaDoor.stepsDigits
