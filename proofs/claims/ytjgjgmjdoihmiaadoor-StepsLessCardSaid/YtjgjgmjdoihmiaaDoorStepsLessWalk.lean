/-
  The walk of the law StepsLess.
-/
import Derived.Test.YtjgjgmjdoihmiaaDoorAlive3
import Derived.Test.YtjgjgmjdoihmiaaDoorFree
namespace Go.Proofs.YtjgjgmjdoihmiaaDoor.stepsLess
open Go.RowKit Go.BigFrame

set_option maxHeartbeats 4000000 in
set_option maxRecDepth 100000 in
theorem walk (w : World) (hk : KAt w) (x : List Nat) (hx : x.length = 16) (lx : ∀ d ∈ x, d < 256) (y : List Nat) (hy : y.length = 16) (ly : ∀ d ∈ y, d < 256) :
    Calls Tryd.prog 6 #[.agg (nums .u8 x).toArray, .agg (nums .u8 y).toArray] w fun e w' => e = .returned (.bool true) ∧ Below w.heap.size w w' := by
  have HK := Lib.hid hk
  have HX := Lib.hid hx
  have HY := Lib.hid hy
  have LX := Lib.hid lx
  have LY := Lib.hid ly
  clear hk hx hy lx ly
  go_enter Tryd.func6, Tryd.ntmps6
  go_upto_region 1 with (fail)
  change Code.wp _ _ _ _ ((w.alloc (.cells (nums .u8 x).toArray 22)).alloc (.cells (nums .u8 y).toArray 22))
  obtain ⟨w1, hw1⟩ : ∃ x', x' = (w.alloc (.cells (nums .u8 x).toArray 22)).alloc (.cells (nums .u8 y).toArray 22) := ⟨_, rfl⟩
  rw [← hw1]
  have h3 : Blk w.heap.size 22 .u8 x w1 ∧ Blk (w.heap.size + 1) 22 .u8 y w1 ∧ Below w.heap.size w w1 := by rw [hw1]; exact two_new w _ _ _ _
  obtain ⟨hx1, hy1, hb1⟩ := h3
  have HX1 := Lib.hid hx1
  have HY1 := Lib.hid hy1
  have HB1 := Lib.hid hb1
  have HK1 := Lib.hid (HK.out.below hb1)
  obtain ⟨gx, hgx⟩ : ∃ g, g = w.heap.size := ⟨_, rfl⟩
  obtain ⟨gy, hgy⟩ : ∃ g, g = w.heap.size + 1 := ⟨_, rfl⟩
  rw [← hgy] at HY1 ⊢
  rw [← hgx] at HX1
  change Code.wp _ _ _ { tmps := #[.agg (nums .u8 x).toArray, .agg (nums .u8 y).toArray, .pointer (some ⟨w.heap.size, 0, none⟩), .pointer (some ⟨gy, 0, none⟩), _, _, _, _, _, _, _, _, _, _, _, _, _, _, _, _, _, _, _, _, _, _, _, _, _, _, _, _, _, _, _, _, _, _, _, _, _, _, _, _, _, _, _, _, _, _, _, _, _, _, _, _, _, _, _, _, _, _, _, _, _, _, _, _, _, _, _, _], defers := [] } _
  have HGX := Lib.hid hgx
  have HGY := Lib.hid hgy
  rw [show (Addr.mk w.heap.size 0 none) = ⟨gx, 0, none⟩ by rw [hgx]]
  clear hx1 hy1 hb1 hw1 HK hgx hgy
  go_wp2_with fail
  refine (alive3_any w1 HK1.out).mono ?_
  rintro e w2 ⟨rfl, hb2⟩
  have HX2 := Lib.hid (HX1.out.below hb2)
  have HY2 := Lib.hid (HY1.out.below hb2)
  have HB2 := Lib.hid (HB1.out.trans (hb2.mono HB1.out.size))
  clear hb2 HX1 HY1 HB1 HK1
  go_upto_region 3 with (fail)
  have HIX := Lib.hid (show (Tryd.prog.info? 22).map (·.size) = some x.length by rw [HX.out]; kernel_rfl)
  have HIY := Lib.hid (show (Tryd.prog.info? 22).map (·.size) = some y.length by rw [HY.out]; kernel_rfl)
  have HAL := Lib.hid (show ∀ w : World, (Instr.alloc 30 true (.tuple #[])).run Tryd.prog w = .ok (.pointer (some ⟨w.heap.size, 0, none⟩)) (w.alloc (.cells (nums .i64 (List.replicate 35 0)).toArray 30)) from fun w => by kernel_rfl)
  refine wp_region_free 6 (fun s V w' => Below w2.heap.size w2 w' ∧ Val s V 0 (.agg (nums .u8 x).toArray) ∧ Val s V 1 (.agg (nums .i64 (digN x)).toArray) ∧ Val s V 2 (.agg (nums .u8 y).toArray) ∧ Val s V 3 (.agg (nums .i64 (digN y)).toArray) ∧ New s V w2.heap.size 4 30 .i64 (List.replicate 35 0) w' ∧ New s V w2.heap.size 5 30 .i64 (List.replicate 35 0) w' ∧ Two s V 4 5) (fun _ => undef) (by kernel_rfl) (by kernel_rfl) (by kernel_rfl) rfl ⟨(Below.refl _ _).drew, Val.none, Val.none, Val.none, Val.none, New.none, New.none, Two.none⟩ ?_ ?_
  · simp only [List.take_succ_cons, List.take_zero, putAll, Nat.zero_add, Nat.reduceAdd, Act.put, List.setIfInBounds_toArray, List.set_cons_zero, List.set_cons_succ]
    refine FreeSteps.cons ?_ (FreeSteps.cons ?_ (FreeSteps.cons ?_ (FreeSteps.cons ?_ (FreeSteps.cons ?_ (FreeSteps.cons ?_ FreeSteps.nil)))))
    all_goals (refine FreeStep.plain rfl ?_; rintro s V wq hr ⟨hB, h0, h1, h2, h3, h4, h5, h6⟩ K hK)
    · exact op_load_nums 22 (.tmp 2) rfl gx .u8 x 22 _ rfl (HX2.out.below hB) Tryd.underlying22 rfl HIX.out (hK _ _ ⟨hB, .same, h1.ne (by decide), h2.ne (by decide), h3.ne (by decide), h4.ne (by decide) (Below.refl _ _), h5.ne (by decide) (Below.refl _ _), h6.ne (by decide) (by decide)⟩)
    · refine op_call Tryd.func11 rfl rfl rfl [.agg (nums .u8 x).toArray] (congrArg (fun v => [v]) (h0 (hr { on := 0, ground := .data } (by simp) rfl))) (dev_digits x wq HX.out LX.out) ?_
      rintro e w' ⟨rfl, hb⟩
      exact ⟨_, rfl, hK _ _ ⟨hB.trans (hb.mono hB.size), h0.ne (by decide), .same, h2.ne (by decide), h3.ne (by decide), h4.ne (by decide) hb, h5.ne (by decide) hb, h6.ne (by decide) (by decide)⟩⟩
    · exact op_load_nums 22 (.tmp 3) rfl gy .u8 y 22 _ rfl (HY2.out.below hB) Tryd.underlying22 rfl HIY.out (hK _ _ ⟨hB, h0.ne (by decide), h1.ne (by decide), .same, h3.ne (by decide), h4.ne (by decide) (Below.refl _ _), h5.ne (by decide) (Below.refl _ _), h6.ne (by decide) (by decide)⟩)
    · refine op_call Tryd.func11 rfl rfl rfl [.agg (nums .u8 y).toArray] (congrArg (fun v => [v]) (h2 (hr { on := 2, ground := .data } (by simp) rfl))) (dev_digits y wq HY.out LY.out) ?_
      rintro e w' ⟨rfl, hb⟩
      exact ⟨_, rfl, hK _ _ ⟨hB.trans (hb.mono hB.size), h0.ne (by decide), h1.ne (by decide), h2.ne (by decide), .same, h4.ne (by decide) hb, h5.ne (by decide) hb, h6.ne (by decide) (by decide)⟩⟩
    · have hb : Below wq.heap.size wq (wq.alloc (.cells (nums .i64 (List.replicate 35 0)).toArray 30)) := (Below.refl _ _).alloc (Nat.le_refl _) _
      exact op_alloc 30 rfl _ HAL.out (hK _ _ ⟨hB.trans (hb.mono hB.size), h0.ne (by decide), h1.ne (by decide), h2.ne (by decide), h3.ne (by decide), .same hB.size, h5.ne (by decide) hb, .left h5 (by decide)⟩)
    · have hb : Below wq.heap.size wq (wq.alloc (.cells (nums .i64 (List.replicate 35 0)).toArray 30)) := (Below.refl _ _).alloc (Nat.le_refl _) _
      exact op_alloc 30 rfl _ HAL.out (hK _ _ ⟨hB.trans (hb.mono hB.size), h0.ne (by decide), h1.ne (by decide), h2.ne (by decide), h3.ne (by decide), h4.ne (by decide) hb, .same hB.size, .right h4 (by decide)⟩)
  · rintro s V w3 hall ⟨hB, h0, h1, h2, h3, h4, h5, h6⟩
    have v0 := h0 (hall 0 (by decide))
    have v1 := h1 (hall 1 (by decide))
    have v2 := h2 (hall 2 (by decide))
    have v3 := h3 (hall 3 (by decide))
    obtain ⟨ga, v4, hga, ha⟩ := h4 (hall 4 (by decide))
    obtain ⟨gb, v5, hgb, hb⟩ := h5 (hall 5 (by decide))
    have hne : ga ≠ gb := fun e => h6 (hall 4 (by decide)) (hall 5 (by decide)) (by rw [v4, v5, e])
    simp only [List.take_succ_cons, List.take_zero, List.drop_succ_cons, List.drop_zero, putAll, Nat.zero_add, Nat.reduceAdd, v0, v1, v2, v3, v4, v5, Act.put, List.setIfInBounds_toArray, List.set_cons_zero, List.set_cons_succ]
    clear h0 h1 h2 h3 h4 h5 h6 v0 v1 v2 v3 v4 v5 hall HAL
    have HX3 := Lib.hid (HX2.out.below hB)
    have HY3 := Lib.hid (HY2.out.below hB)
    have HB3 := Lib.hid (HB2.out.trans (hB.mono HB2.out.size))
    have HA := Lib.hid ha
    have HZ := Lib.hid hb
    have HNE := Lib.hid hne
    have HGA := Lib.hid (show w.heap.size + 1 < ga by have := HY2.out.lt; have := HGY.out; omega)
    have HGB := Lib.hid (show w.heap.size + 1 < gb by have := HY2.out.lt; have := HGY.out; omega)
    clear hB ha hb hne hga hgb HX2 HY2 HB2
    have HIP := Lib.hid (show (Tryd.prog.info? 30).map (·.size) = some (digN x).length by rw [digN_len HX.out]; exact Tryd.infoDg)
    have HIQ := Lib.hid (show (Tryd.prog.info? 30).map (·.size) = some (digN y).length by rw [digN_len HY.out]; exact Tryd.infoDg)
    have HLP := Lib.hid (show (List.replicate 35 0).length = (digN x).length by rw [digN_len HX.out]; rfl)
    have HLQ := Lib.hid (show (List.replicate 35 0).length = (digN y).length by rw [digN_len HY.out]; rfl)
    go_wp2_with (refine wpList_store_nums rfl 30 _ _ rfl rfl ga .i64 _ (digN x) 30 rfl rfl HA.out HIP.out HLP.out ?_)
    intro w4 hc hb
    have HX4 := Lib.hid (HX3.out.but hb.out (by have := HGA.out; have := HGX.out; omega))
    have HY4 := Lib.hid (HY3.out.but hb.out (by have := HGA.out; have := HGY.out; omega))
    have HB4 := Lib.hid (But.toBelow HB3.out hb.out (by have := HGA.out; omega) HB3.out.size)
    have HZ4 := Lib.hid (HZ.out.but hb.out (Ne.symm HNE.out))
    have HA4 := Lib.hid (show Blk ga 30 .i64 (digN x) w4 from hc.out)
    clear hc hb HX3 HY3 HB3 HZ HA
    go_wp2_with (refine wpList_store_nums rfl 30 _ _ rfl rfl gb .i64 _ (digN y) 30 rfl rfl HZ4.out HIQ.out HLQ.out ?_)
    intro w5 hc hb
    have HX5 := Lib.hid (HX4.out.but hb.out (by have := HGB.out; have := HGX.out; omega))
    have HY5 := Lib.hid (HY4.out.but hb.out (by have := HGB.out; have := HGY.out; omega))
    have HB5 := Lib.hid (But.toBelow HB4.out hb.out (by have := HGB.out; omega) HB4.out.size)
    have HA5 := Lib.hid (HA4.out.but hb.out HNE.out)
    have HZ5 := Lib.hid (show Blk gb 30 .i64 (digN y) w5 from hc.out)
    clear hc hb HX4 HY4 HB4 HZ4 HA4 HIP HIQ HLP HLQ
    have HDX := Lib.hid (digN_lt HX.out LX.out)
    have HDY := Lib.hid (digN_lt HY.out LY.out)
    have HLX := Lib.hid (digN_len HX.out)
    have HLY := Lib.hid (digN_len HY.out)
    have HXY := Lib.hid (show x = y → digN x = digN y from fun e => by rw [e])
    have H1 := Lib.hid (lessB_digits HX.out HY.out LX.out)
    have H2 := Lib.hid (fun h => lessB_digits HY.out HX.out LY.out (Ne.symm h))
    generalize digN x = D at *
    generalize digN y = E at *
    go_wp2_with fail
    go_loopw [7, 8, 16] (fun p q i wq => ∃ k : Nat, k ≤ 35 ∧ i = .int .i64 k ∧ p = .bool (lessB D E k) ∧ q = .bool (lessB E D k) ∧ Below w5.heap.size w5 wq) (fun _ _ i _ => 35 - (intOf i).toNat)
    case atStart => exact ⟨0, by omega, rfl, rfl, rfl, Below.refl _ _⟩
    case round =>
      obtain ⟨k, hk, rfl, rfl, rfl, hb⟩ := hrel
      have HB := Lib.hid hb
      have ha := HA5.out.below hb
      have hz := HZ5.out.below hb
      clear hb
      by_cases hlk : k < 35
      · have c1 := ha.cell k (by rw [HLX.out]; exact hlk)
        have c2 := hz.cell k (by rw [HLY.out]; exact hlk)
        clear ha hz
        have d1 := getD_lt HDX.out (by decide) k
        have d2 := getD_lt HDY.out (by decide) k
        have N1 := Lib.hid (lessB_next D E k)
        have N2 := Lib.hid (lessB_next E D k)
        generalize lessB D E k = p at *
        generalize lessB E D k = q at *
        generalize D.getD k 0 = a at *
        generalize E.getD k 0 = b at *
        have n1 : ¬ ((a : Int) < 0) := by omega
        have n2 : ¬ ((15 : Int) < a) := by omega
        cases p <;> cases q
        all_goals
          go_wp2_with fail
          go_quiet (fail)
          go_wp2_with fail
          go_quiet (fail)
          go_wp2_with fail
          exact ⟨⟨k + 1, by omega, by go_num, by rw [N1.out]; simp, by rw [N2.out]; simp, drawn_below HB.out _⟩, by simp [intOf]; omega⟩
      · obtain rfl : k = 35 := by omega
        clear ha hz
        have HXr := Lib.hid (HX5.out.below HB.out)
        have HYr := Lib.hid (HY5.out.below HB.out)
        have HBr := Lib.hid (HB5.out.trans (HB.out.mono HB5.out.size))
        clear HX5 HY5 HB5 HB HA5 HZ5
        have e1 := fun w => equal_nums (P := Tryd.prog) 22 5 16 Tryd.underlying22 Tryd.underlying5 Tryd.sizeOf5 x y HX.out HY.out LX.out LY.out w
        by_cases hxy : x = y
        · have E1 := HXY.out hxy
          subst E1
          have l1 := lessB_same D 35
          rw [l1]
          have e2 : (x == y) = true := by rw [hxy]; exact beq_self_eq_true _
          rw [e2] at e1
          clear l1 e2 hxy
          go_upto_region 13 with (fail)
          refine wp_region_lit ?_
          refine wpList_load_nums rfl 22 _ rfl gx .u8 _ 22 _ rfl HXr.out Tryd.underlying22 rfl HIX.out ?_
          simp only [Act.put, List.setIfInBounds_toArray, List.set_cons_zero, List.set_cons_succ]
          refine wpList_load_nums rfl 22 _ rfl gy .u8 _ 22 _ rfl HYr.out Tryd.underlying22 rfl HIY.out ?_
          simp only [Act.put, List.setIfInBounds_toArray, List.set_cons_zero, List.set_cons_succ]
          go_wp2_with fail
          go_ret
          exact ⟨rfl, HBr.out⟩
        · have l1 := H1.out hxy
          have l2 := H2.out hxy
          rw [l1, l2]
          have e2 : (x == y) = false := by simpa using hxy
          rw [e2] at e1
          clear l1 l2 e2 hxy
          go_upto_region 13 with (fail)
          refine wp_region_lit ?_
          refine wpList_load_nums rfl 22 _ rfl gx .u8 _ 22 _ rfl HXr.out Tryd.underlying22 rfl HIX.out ?_
          simp only [Act.put, List.setIfInBounds_toArray, List.set_cons_zero, List.set_cons_succ]
          refine wpList_load_nums rfl 22 _ rfl gy .u8 _ 22 _ rfl HYr.out Tryd.underlying22 rfl HIY.out ?_
          simp only [Act.put, List.setIfInBounds_toArray, List.set_cons_zero, List.set_cons_succ]
          iterate 20 (first | go_skip | go_guarded | go_step)
          refine wpList_load_want (by rfl) 22 _ rfl gx .u8 _ 22 _ rfl HXr.out Tryd.underlying22 rfl HIX.out ?_
          simp only [Act.put, List.setIfInBounds_toArray, List.set_cons_zero, List.set_cons_succ]
          refine wpList_load_want (by rfl) 22 _ rfl gy .u8 _ 22 _ rfl HYr.out Tryd.underlying22 rfl HIY.out ?_
          simp only [Act.put, List.setIfInBounds_toArray, List.set_cons_zero, List.set_cons_succ]
          go_wp2_with fail
          go_ret
          exact ⟨rfl, HBr.out⟩
end Go.Proofs.YtjgjgmjdoihmiaaDoor.stepsLess
