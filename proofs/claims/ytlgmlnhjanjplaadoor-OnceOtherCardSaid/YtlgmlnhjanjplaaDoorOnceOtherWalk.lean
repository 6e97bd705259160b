/-
  The walk of the law OnceOther.
-/
import Derived.Test.YtlgmlnhjanjplaaDoorAlive4
namespace Go.Proofs.YtlgmlnhjanjplaaDoor.onceOther
open Go.RowKit Go.BigFrame

set_option maxHeartbeats 1000000 in
set_option maxRecDepth 100000 in
theorem walk (w : World) (hk : KAt w) (s : List UInt8) (hs : s.length ≤ 140737488351232) (i : Int) (wi : (Lit.int .i64 i).wf = true) (d : List Nat) (hd : d.length = 16) (ld : ∀ y ∈ d, y < 256) (o : Int) (wo : (Lit.int .i64 o).wf = true) (c : List Nat) (hc : c.length = 16) (lc : ∀ y ∈ c, y < 256) :
    Calls Tryd.prog 6 #[.string ⟨s.toArray⟩, .int .i64 i, .agg (nums .u8 d).toArray, .int .i64 o, .agg (nums .u8 c).toArray] w fun e w' => e = .returned (.bool true) ∧ Below w.heap.size w w' := by
  have HK := Lib.hid hk
  have BI := Lib.hid (bounds_i64 wi)
  have BO := Lib.hid (bounds_i64 wo)
  have HD := Lib.hid hd
  have LD := Lib.hid ld
  have HC := Lib.hid hc
  have LC := Lib.hid lc
  clear hk wi hd ld wo hc lc
  go_enter Tryd.func6, Tryd.ntmps6
  go_upto_region 1 with (fail)
  change Code.wp _ _ _ _ ((w.alloc (.cells (nums .u8 d).toArray 23)).alloc (.cells (nums .u8 c).toArray 23))
  obtain ⟨w1, hw1⟩ : ∃ x', x' = (w.alloc (.cells (nums .u8 d).toArray 23)).alloc (.cells (nums .u8 c).toArray 23) := ⟨_, rfl⟩
  rw [← hw1]
  have h3 : Blk w.heap.size 23 .u8 d w1 ∧ Blk (w.heap.size + 1) 23 .u8 c w1 ∧ Below w.heap.size w w1 := by rw [hw1]; exact two_new w _ _ _ _
  obtain ⟨hx1, hr1, hb1⟩ := h3
  have HD1 := Lib.hid hx1
  have HC1 := Lib.hid hr1
  have HB1 := Lib.hid hb1
  have HK1 := Lib.hid (HK.out.below hb1)
  have HI := Lib.hid (show (Tryd.prog.info? 23).map (·.size) = some d.length by rw [HD.out]; kernel_rfl)
  have HIC := Lib.hid (show (Tryd.prog.info? 23).map (·.size) = some c.length by rw [HC.out]; kernel_rfl)
  obtain ⟨gc, hgc⟩ : ∃ g, g = w.heap.size + 1 := ⟨_, rfl⟩
  rw [← hgc] at HC1 ⊢
  clear hx1 hr1 hb1 hw1 HK hgc
  go_wp2_with fail
  refine (alive4_any w1 HK1.out).mono ?_
  rintro e w2 ⟨rfl, hb2⟩
  have HD2 := Lib.hid (HD1.out.below hb2)
  have HC2 := Lib.hid (HC1.out.below hb2)
  have HB2 := Lib.hid (HB1.out.trans (hb2.mono HB1.out.size))
  have HK2 := Lib.hid (HK1.out.below hb2)
  clear hb2 HD1 HB1 HK1 HC1
  by_cases hlong : 512 < s.length
  · have hl2 : (512 : Int) < s.length := by omega
    go_wp2_with fail
    go_ret
    exact ⟨rfl, HB2.out⟩
  · have hl2 : ¬ (512 : Int) < s.length := by omega
    have HS := Lib.hid (show s.length ≤ 4000 by omega)
    have GL := Lib.hid (signN_len s i d)
    have YL := keyN_len (rowE (endF s i) 35) i
    have YT := keyN_lt (rowE (endF s i) 35) i
    have ML := keyN_len (rowE (metF (signN s i d) o c) 35) o
    have MT := keyN_lt (rowE (metF (signN s i d) o c) 35) o
    obtain ⟨G, hG⟩ : ∃ G, signN s i d = G := ⟨_, rfl⟩
    obtain ⟨Y, hY⟩ : ∃ Y, leafN s i = Y := ⟨_, rfl⟩
    obtain ⟨M, hM⟩ : ∃ M, meetN G o c = M := ⟨_, rfl⟩
    rw [show keyN (rowE (endF s i) 35) i = leafN s i from rfl, hY] at YL YT
    rw [show keyN (rowE (metF (signN s i d) o c) 35) o = meetN (signN s i d) o c from rfl, hG, hM] at ML MT
    rw [hG] at GL
    have HG := Shut.mk hG
    have HY := Shut.mk hY
    have HM := Shut.mk hM
    have e2 := fun w => equal_elem M Y ML YL MT YT w
    have YL' := Lib.hid YL
    have ML' := Lib.hid ML
    clear hG hY hM YT YL ML MT hlong
    go_upto_region 5 with (fail)
    go_wp2_with (refine wpList_load_nums rfl 23 _ rfl w.heap.size .u8 _ 23 _ rfl HD2.out Tryd.underlying23 rfl HI.out ?_)
    refine (dev_sign s i d w2 HS.out BI.out.1 BI.out.2 HD.out LD.out HK2.out).mono ?_
    rintro e w3 ⟨rfl, hb3⟩
    rw [HG.out]
    have HD3 := Lib.hid (HD2.out.below hb3)
    have HC3 := Lib.hid (HC2.out.below hb3)
    have HB3 := Lib.hid (HB2.out.trans (hb3.mono HB2.out.size))
    have HK3 := Lib.hid (HK2.out.below hb3)
    clear hb3 HD2 HB2 HK2 HC2
    go_wp2_with (refine wpList_load_nums rfl 23 _ rfl gc .u8 _ 23 _ rfl HC3.out Tryd.underlying23 rfl HIC.out ?_)
    refine (dev_meet G o c w3 GL.out BO.out.1 BO.out.2 HC.out LC.out HK3.out).mono ?_
    rintro e w4 ⟨rfl, hb4⟩
    rw [HM.out]
    have HD4 := Lib.hid (HD3.out.below hb4)
    have HC4 := Lib.hid (HC3.out.below hb4)
    have HB4 := Lib.hid (HB3.out.trans (hb4.mono HB3.out.size))
    have HK4 := Lib.hid (HK3.out.below hb4)
    clear hb4 HD3 HB3 HK3 HC3
    have HX := Lib.hid (show Blk w4.heap.size 24 .u8 (List.replicate 16 0) (w4.alloc (.cells (nums .u8 (List.replicate 16 0)).toArray 24)) from heap_alloc_new w4 _)
    have HIM := Lib.hid (show (Tryd.prog.info? 24).map (·.size) = some M.length by rw [ML'.out]; exact Tryd.infoE)
    have HL2 := Lib.hid (show (List.replicate 16 0).length = M.length by rw [ML'.out]; rfl)
    go_wp2_with (refine wpList_store_nums rfl 24 _ _ rfl rfl w4.heap.size .u8 _ M 24 rfl rfl HX.out HIM.out HL2.out ?_)
    intro w5 hc hb
    have HX5 := Lib.hid (show Blk w4.heap.size 24 .u8 M w5 from hc.out)
    have hb5 : Below w4.heap.size w4 w5 := But.toBelow ((Below.refl _ w4).alloc (Nat.le_refl _) _) hb.out (Nat.le_refl _) (by simp)
    have HD5 := Lib.hid (HD4.out.below hb5)
    have HC5 := Lib.hid (HC4.out.below hb5)
    have HB5 := Lib.hid (HB4.out.trans (hb5.mono HB4.out.size))
    have HK3 := Lib.hid (HK4.out.below hb5)
    obtain ⟨gx, hgx⟩ : ∃ g, g = w4.heap.size := ⟨_, rfl⟩
    rw [← hgx] at HX5 ⊢
    clear hc hb hb5 HX HD4 HB4 HK4 hgx HC4
    go_upto_region 7 with (fail)
    have HAL := Lib.hid (show ∀ w : World, (Instr.alloc 24 true (.tuple #[])).run Tryd.prog w = .ok (.pointer (some ⟨w.heap.size, 0, none⟩)) (w.alloc (.cells (nums .u8 (List.replicate 16 0)).toArray 24)) from fun w => by kernel_rfl)
    refine wp_region_free 12 (fun q V w' => SS w5 w' ∧ Val q V 0 (.string ⟨s.toArray⟩) ∧ Val q V 1 (.int .i64 i) ∧ Val q V 2 (.agg (nums .u8 d).toArray) ∧ Val q V 3 (.string ⟨G.toArray⟩) ∧ Val q V 4 (.int .i64 o) ∧ Val q V 5 (.agg (nums .u8 c).toArray) ∧ Val q V 6 (.tuple #[.agg (nums .u8 M).toArray, .bool true]) ∧ Val q V 7 (.tuple #[.agg (nums .u8 M).toArray, .bool true]) ∧ Val q V 8 (.agg (nums .u8 M).toArray) ∧ Val q V 9 (.bool true) ∧ Put q V w5.heap.size 10 11 24 .u8 (List.replicate 16 0) M w' ∧ Late q 10 11) (fun _ => undef) (by kernel_rfl) (by kernel_rfl) (by kernel_rfl) (by simp only [List.take_succ_cons, List.take_zero, putAll, Act.put, List.setIfInBounds_toArray, List.set_cons_zero, List.set_cons_succ]) ⟨SS.start HK3.out, Val.none, Val.none, Val.none, Val.none, Val.none, Val.none, Val.none, Val.none, Val.none, Val.none, Put.none, Late.none⟩ ?_ ?_
    · simp only [List.take_succ_cons, List.take_zero, putAll, Nat.zero_add, Nat.reduceAdd, Act.put, List.setIfInBounds_toArray, List.set_cons_zero, List.set_cons_succ]
      refine FreeSteps.cons ?_ (FreeSteps.cons ?_ (FreeSteps.cons ?_ (FreeSteps.cons ?_ (FreeSteps.cons ?_ (FreeSteps.cons ?_ (FreeSteps.cons ?_ (FreeSteps.cons ?_ (FreeSteps.cons ?_ (FreeSteps.cons ?_ (FreeSteps.cons ?_ (FreeSteps.cons ?_ (FreeSteps.nil))))))))))))
      all_goals (refine FreeStep.fresh rfl ?_; rintro q V wq hr hu ⟨hB, h0, h1, h2, h3, h4, h5, h6, h7, h8, h9, hp, hl⟩ K hK)
      · exact op_move (.tmp 0) rfl (.string ⟨s.toArray⟩) rfl (hK _ _ ⟨hB, .same, h1.ne (by decide), h2.ne (by decide), h3.ne (by decide), h4.ne (by decide), h5.ne (by decide), h6.ne (by decide), h7.ne (by decide), h8.ne (by decide), h9.ne (by decide), hp.ne (by decide) (by decide) (Below.refl _ _), hl.ne (by decide)⟩)
      · exact op_move (.tmp 1) rfl (.int .i64 i) rfl (hK _ _ ⟨hB, h0.ne (by decide), .same, h2.ne (by decide), h3.ne (by decide), h4.ne (by decide), h5.ne (by decide), h6.ne (by decide), h7.ne (by decide), h8.ne (by decide), h9.ne (by decide), hp.ne (by decide) (by decide) (Below.refl _ _), hl.ne (by decide)⟩)
      · exact op_load_nums 23 (.tmp 7) rfl w.heap.size .u8 d 23 _ rfl (HD5.out.below hB.1) Tryd.underlying23 rfl HI.out (hK _ _ ⟨hB, h0.ne (by decide), h1.ne (by decide), .same, h3.ne (by decide), h4.ne (by decide), h5.ne (by decide), h6.ne (by decide), h7.ne (by decide), h8.ne (by decide), h9.ne (by decide), hp.ne (by decide) (by decide) (Below.refl _ _), hl.ne (by decide)⟩)
      · refine op_call Tryd.func15 rfl rfl rfl [.string ⟨s.toArray⟩, .int .i64 i, .agg (nums .u8 d).toArray] (cons_eq (h0 (hr { on := 0, ground := .data } (by simp) rfl)) (cons_eq (h1 (hr { on := 1, ground := .data } (by simp) rfl)) (cons_eq (h2 (hr { on := 2, ground := .data } (by simp) rfl)) rfl))) (ref_sign s i d wq HS.out BI.out.1 BI.out.2 HD.out LD.out) ?_
        rintro e w' ⟨rfl, hb⟩
        rw [HG.out]
        exact ⟨_, rfl, hK _ _ ⟨hB.next hb, h0.ne (by decide), h1.ne (by decide), h2.ne (by decide), .same, h4.ne (by decide), h5.ne (by decide), h6.ne (by decide), h7.ne (by decide), h8.ne (by decide), h9.ne (by decide), hp.ne (by decide) (by decide) hb, hl.ne (by decide)⟩⟩
      · exact op_move (.tmp 3) rfl (.int .i64 o) rfl (hK _ _ ⟨hB, h0.ne (by decide), h1.ne (by decide), h2.ne (by decide), h3.ne (by decide), .same, h5.ne (by decide), h6.ne (by decide), h7.ne (by decide), h8.ne (by decide), h9.ne (by decide), hp.ne (by decide) (by decide) (Below.refl _ _), hl.ne (by decide)⟩)
      · exact op_load_nums 23 (.tmp 9) rfl gc .u8 c 23 _ rfl (HC5.out.below hB.1) Tryd.underlying23 rfl HIC.out (hK _ _ ⟨hB, h0.ne (by decide), h1.ne (by decide), h2.ne (by decide), h3.ne (by decide), h4.ne (by decide), .same, h6.ne (by decide), h7.ne (by decide), h8.ne (by decide), h9.ne (by decide), hp.ne (by decide) (by decide) (Below.refl _ _), hl.ne (by decide)⟩)
      · refine op_call Tryd.func16 rfl rfl rfl [.string ⟨G.toArray⟩, .int .i64 o, .agg (nums .u8 c).toArray] (cons_eq (h3 (hr { on := 3, ground := .data } (by simp) rfl)) (cons_eq (h4 (hr { on := 4, ground := .data } (by simp) rfl)) (cons_eq (h5 (hr { on := 5, ground := .data } (by simp) rfl)) rfl))) (ref_meet G o c wq GL.out BO.out.1 BO.out.2 HC.out LC.out) ?_
        rintro e w' ⟨rfl, hb⟩
        rw [HM.out]
        exact ⟨_, rfl, hK _ _ ⟨hB.next hb, h0.ne (by decide), h1.ne (by decide), h2.ne (by decide), h3.ne (by decide), h4.ne (by decide), h5.ne (by decide), .same, h7.ne (by decide), h8.ne (by decide), h9.ne (by decide), hp.ne (by decide) (by decide) hb, hl.ne (by decide)⟩⟩
      · exact op_move (.tmp 39) rfl _ (h6 (hr { on := 6, ground := .data } (by simp) rfl)) (hK _ _ ⟨hB, h0.ne (by decide), h1.ne (by decide), h2.ne (by decide), h3.ne (by decide), h4.ne (by decide), h5.ne (by decide), h6.ne (by decide), .same, h8.ne (by decide), h9.ne (by decide), hp.ne (by decide) (by decide) (Below.refl _ _), hl.ne (by decide)⟩)
      · exact op_extract (.tmp 32) 0 rfl _ _ (h7 (hr { on := 7, ground := .data } (by simp) rfl)) rfl (hK _ _ ⟨hB, h0.ne (by decide), h1.ne (by decide), h2.ne (by decide), h3.ne (by decide), h4.ne (by decide), h5.ne (by decide), h6.ne (by decide), h7.ne (by decide), .same, h9.ne (by decide), hp.ne (by decide) (by decide) (Below.refl _ _), hl.ne (by decide)⟩)
      · exact op_extract (.tmp 32) 1 rfl _ _ (h7 (hr { on := 7, ground := .data } (by simp) rfl)) rfl (hK _ _ ⟨hB, h0.ne (by decide), h1.ne (by decide), h2.ne (by decide), h3.ne (by decide), h4.ne (by decide), h5.ne (by decide), h6.ne (by decide), h7.ne (by decide), h8.ne (by decide), .same, hp.ne (by decide) (by decide) (Below.refl _ _), hl.ne (by decide)⟩)
      · have hb : Below wq.heap.size wq (wq.alloc (.cells (nums .u8 (List.replicate 16 0)).toArray 24)) := (Below.refl _ _).alloc (Nat.le_refl _) _
        exact op_alloc 24 rfl _ HAL.out (hK _ _ ⟨hB.next hb, h0.ne (by decide), h1.ne (by decide), h2.ne (by decide), h3.ne (by decide), h4.ne (by decide), h5.ne (by decide), h6.ne (by decide), h7.ne (by decide), h8.ne (by decide), h9.ne (by decide), .made hB.1.size (hl.not hu) (by decide), hl.ne (by decide)⟩)
      · have h10 : q 10 = true := hr { on := 10, ground := .data } (by simp) rfl
        obtain ⟨g, hg0, hg1, hg2⟩ := hp h10
        rw [if_neg (by rw [hu]; decide)] at hg2
        refine op_store_nums 24 (.tmp 14) (.tmp 40) rfl g .u8 _ M 24 hg0 (h8 (hr { on := 8, ground := .data } (by simp) rfl)) hg2 HIM.out HL2.out ?_
        intro w' hx hb
        have hb' : Below w5.heap.size w5 w' := But.toBelow hB.1 hb hg1 hB.1.size
        exact hK _ _ ⟨⟨hb', HK3.out.below hb'⟩, h0.ne (by decide), h1.ne (by decide), h2.ne (by decide), h3.ne (by decide), h4.ne (by decide), h5.ne (by decide), h6.ne (by decide), h7.ne (by decide), h8.ne (by decide), h9.ne (by decide), .stored hg0 hg1 (by decide) hx, .same h10⟩
    · rintro q V w6 hall ⟨hB, h0, h1, h2, h3, h4, h5, h6, h7, h8, h9, hp, hl⟩
      have v0 := h0 (hall 0 (by decide))
      have v1 := h1 (hall 1 (by decide))
      have v2 := h2 (hall 2 (by decide))
      have v3 := h3 (hall 3 (by decide))
      have v4 := h4 (hall 4 (by decide))
      have v5 := h5 (hall 5 (by decide))
      have v6 := h6 (hall 6 (by decide))
      have v7 := h7 (hall 7 (by decide))
      have v8 := h8 (hall 8 (by decide))
      have v9 := h9 (hall 9 (by decide))
      obtain ⟨gy, v10, hgy, hy⟩ := hp (hall 10 (by decide))
      rw [if_pos (hall 11 (by decide))] at hy
      simp only [List.take_succ_cons, List.take_zero, List.drop_succ_cons, List.drop_zero, putAll, Nat.zero_add, Nat.reduceAdd, v0, v1, v2, v3, v4, v5, v6, v7, v8, v9, v10, Act.put, List.setIfInBounds_toArray, List.set_cons_zero, List.set_cons_succ]
      clear h0 h1 h2 h3 h4 h5 h6 h7 h8 h9 hp hl v0 v1 v2 v3 v4 v5 v6 v7 v8 v9 v10 hall HAL
      have HX6 := Lib.hid (HX5.out.below hB.1)
      have HY6 := Lib.hid hy
      have HB6 := Lib.hid (HB5.out.trans (hB.1.mono HB5.out.size))
      have HK6 := Lib.hid hB.2
      clear hy hgy hB HD5 HC5 HB5 HK3 HX5
      go_upto_region 8 with (fail)
      have HIM2 := Lib.hid (show (Tryd.prog.info? 24).map (·.size) = some M.length by rw [ML'.out]; exact Tryd.infoE)
      obtain ⟨p, hp⟩ : ∃ p, (M == Y) = p := ⟨_, rfl⟩
      rw [hp] at e2
      clear hp
      cases p
      all_goals
        refine wp_region_class (fun w' => SS w6 w') (by kernel_rfl) (by kernel_rfl) (SS.start HK6.out) ?_
        repeat (first
          | (refine wpQuiet_want (by rfl) (fun K hK => ?_); refine quiet_load_nums 24 _ rfl gx .u8 M 24 _ rfl (fun w' h => HX6.out.below h.1) Tryd.underlying24 rfl HIM2.out ?_; refine hK _ ?_; clear hK K; simp only [Act.put, List.setIfInBounds_toArray, List.set_cons_zero, List.set_cons_succ])
          | (refine wpQuiet_want (by rfl) (fun K hK => ?_); refine quiet_load_nums 24 _ rfl gy .u8 M 24 _ rfl (fun w' h => HY6.out.below h.1) Tryd.underlying24 rfl HIM2.out ?_; refine hK _ ?_; clear hK K; simp only [Act.put, List.setIfInBounds_toArray, List.set_cons_zero, List.set_cons_succ])
          | go_big_quiet_step ((intro hs'; first
              | rfl
              | (go_at_call 11; exact (dev_leaf s i _ HS.out BI.out.1 BI.out.2 hs'.2).mono fun e w' h => ⟨h.1.trans (by rw [HY.out]), hs'.next h.2⟩)
              | (go_at_call 12; exact (ref_leaf s i _ HS.out BI.out.1 BI.out.2).mono fun e w' h => ⟨h.1.trans (by rw [HY.out]), hs'.next h.2⟩))))
        refine wpQuiet_nil ?_
        intro w7 hs7
        have HB7 := Lib.hid (HB6.out.trans (hs7.1.mono HB6.out.size))
        clear hs7 e2
        go_wp2_with fail
        go_ret
        exact ⟨rfl, HB7.out⟩
end Go.Proofs.YtlgmlnhjanjplaaDoor.onceOther
