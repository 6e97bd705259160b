/-
  The developers' Verify.
-/
import Derived.Test.YtcjjhddppcmgoaaDoorKeysEl
namespace Go.Proofs.YtcjjhddppcmgoaaDoor
open Go.RowKit Go.BigFrame

set_option maxHeartbeats 4000000 in
set_option maxRecDepth 100000 in
theorem dev_verify6 (r : List Nat) (h i : Int) (t s : List UInt8) (w : World) (hr : r.length = 16) (lr : ∀ y ∈ r, y < 256) (h0 : -9223372036854775808 ≤ h) (h1 : h ≤ 9223372036854775807) (i0 : -9223372036854775808 ≤ i) (i1 : i ≤ 9223372036854775807)
    (ht : t.length ≤ 1000000) (_hs : s.length ≤ 1000000) (hk : KAt w) :
    Calls Tryd.prog 20 #[.agg (nodeV r h), .int .i64 i, .string ⟨t.toArray⟩, .string ⟨s.toArray⟩] w fun e w' => e = .returned (.bool (verK r h i t s)) ∧ Below w.heap.size w w' := by
  have HR := Lib.hid hr
  have LR := Lib.hid lr
  have HK := Lib.hid hk
  have HNOT := Shut.mk (fun hb => verK_not (root := r) (h := h) (i := i) (text := t) (sig := s) hb)
  have HIS := Shut.mk (fun hb => verK_is (root := r) (h := h) (i := i) (text := t) (sig := s) hb)
  have HWZ := Shut.mk (wideN_zero (h := h))
  obtain ⟨VV, hV⟩ : ∃ VV, verK r h i t s = VV := ⟨_, rfl⟩
  rw [hV] at HNOT HIS ⊢
  clear hr lr hV hk
  go_enter Tryd.func20, Tryd.ntmps20
  go_upto_region 1 with (fail)
  obtain ⟨w1, hw1⟩ : ∃ x', x' = w.alloc (.cells (nodeV r h) 33) := ⟨_, rfl⟩
  rw [← hw1]
  have hb1 : Below w.heap.size w w1 := by rw [hw1]; exact (Below.refl _ _).alloc (Nat.le_refl _) _
  have hn1 : Cells w.heap.size 33 (nodeV r h) w1 := by rw [hw1]; exact heap_alloc_new w _
  have HN1 := Lib.hid hn1
  have HB1 := Lib.hid hb1
  have HK2 := Lib.hid (HK.out.below hb1)
  have hc1 := node_height HR.out hn1
  obtain ⟨gn, hgn⟩ : ∃ g, g = w.heap.size := ⟨_, rfl⟩
  rw [← hgn] at HN1 hc1 ⊢
  clear hb1 hn1 hw1 hgn HK
  by_cases hv : 1 ≤ h ∧ h ≤ 8
  · have HD := Shut.mk (decide_eq_true hv)
    obtain ⟨n, rfl⟩ : ∃ n : Nat, h = n := ⟨h.toNat, by omega⟩
    have hn1 : 1 ≤ n := by omega
    have hn8 : n ≤ 8 := by omega
    rw [wideN_ok hn1 hn8] at HNOT HIS
    rw [Int.toNat_natCast] at HNOT HIS
    have hsh := shl_two hn8
    have hw8 := two_le hn8
    obtain ⟨W, hW⟩ : ∃ W, 2 ^ n = W := ⟨_, rfl⟩
    rw [hW] at HNOT HIS hsh hw8
    clear hW HWZ hv
    by_cases hi : i < 0
    · clear hsh
      go_wp2_with fail
      refine (dev_valid n w1 true HD.out).mono ?_
      rintro e w2 ⟨rfl, rfl⟩
      go_wp2_with fail
      go_ret
      exact ⟨by rw [HNOT.out (by omega)]; rfl, HB1.out⟩
    · by_cases hiw : (W : Int) ≤ i
      · have hge : wrap64 ((2 : Int) ^ n) ≤ i := by rw [hsh]; exact hiw
        clear hsh
        go_wp2_with fail
        refine (dev_valid n w1 true HD.out).mono ?_
        rintro e w2 ⟨rfl, rfl⟩
        go_wp2_with fail
        go_ret
        exact ⟨by rw [HNOT.out (by omega)]; rfl, HB1.out⟩
      · have hge : ¬ wrap64 ((2 : Int) ^ n) ≤ i := by rw [hsh]; exact hiw
        clear hsh
        go_wp2_with fail
        refine (dev_valid n w1 true HD.out).mono ?_
        rintro e wv ⟨rfl, rfl⟩
        go_wp2_with fail
        refine (dev_size n wv (by omega) (by omega)).mono ?_
        rintro e w2 ⟨rfl, hb2⟩
        have HNb := Lib.hid (HN1.out.below hb2)
        have HBb := Lib.hid (HB1.out.trans (hb2.mono HB1.out.size))
        have HKb := Lib.hid (HK2.out.below hb2)
        clear hb2 HN1 HB1 HK2 hc1
        obtain ⟨HN1, HB1, HK2⟩ : _ ∧ _ ∧ _ := ⟨HNb, HBb, HKb⟩
        clear HNb HBb HKb
        have hc1 := node_height HR.out HN1.out
        by_cases hl : s.length = 560 + 16 * n
        · have hl2 : ((s.length : Int) != 560 + 16 * (n : Int)) = false := by simp; omega
          have HSL := Lib.hid (show 560 ≤ s.length by omega)
          have HFA := Lib.hid (show ∀ w, (Instr.fieldAt 33 (.pointer (some ⟨gn, 0, none⟩)) 0).run Tryd.prog w = .ok (.pointer (some ⟨gn, 0, none⟩)) w from fun w => by go_simp)
          have HNR := Lib.hid (node_root HN1.out)
          have HGN := Lib.hid (show gn < w2.heap.size from HN1.out.lt)
          have HIR := Lib.hid (show (Tryd.prog.info? 31).map (·.size) = some r.length by rw [HR.out]; exact Tryd.infoE)
          have HDG := Lib.hid (fun w hk => dev_digest6 r i t w HR.out LR.out i0 i1 ht hk)
          have hd1 := digK_len r i t
          have hd2 := digK_lt r i t
          obtain ⟨D, hD⟩ : ∃ D, digK r i t = D := ⟨_, rfl⟩
          rw [hD] at HDG hd1 hd2 HIS
          have HMT := Lib.hid (fun w hk => dev_meet (s.take 560) i D w (by rw [List.length_take]; omega) i0 i1 hd1 hd2 hk)
          rw [meetN_take] at HMT
          have hm1 := keyN_len (rowE (metF s i D) 35) i
          have hm2 := keyN_lt (rowE (metF s i D) 35) i
          rw [show keyN (rowE (metF s i D) 35) i = meetN s i D from rfl] at hm1 hm2
          obtain ⟨M, hM⟩ : ∃ M, meetN s i D = M := ⟨_, rfl⟩
          rw [hM] at HMT hm1 hm2 HIS
          have HIM := Lib.hid (show (Tryd.prog.info? 31).map (·.size) = some M.length by rw [hm1]; exact Tryd.infoE)
          have HLM := Lib.hid (show (List.replicate 16 0).length = M.length by rw [hm1]; rfl)
          have HM1 := Lib.hid hm1
          have HM2 := Lib.hid hm2
          clear hD hM hd1 hd2 hm1 hm2
          go_upto_region 3 with (fail)
          have HAL := Lib.hid (show ∀ w : World, (Instr.alloc 31 true (.tuple #[])).run Tryd.prog w = .ok (.pointer (some ⟨w.heap.size, 0, none⟩)) (w.alloc (.cells (nums .u8 (List.replicate 16 0)).toArray 31)) from fun w => by kernel_rfl)
          refine wp_region_free 14 (fun q V w' => Below w2.heap.size w2 w' ∧ Val q V 0 (.string ⟨s.toArray⟩) ∧ Val q V 1 (.string ⟨(s.take 560).toArray⟩) ∧ Val q V 2 (.int .i64 i) ∧ Val q V 3 (.pointer (some ⟨gn, 0, none⟩)) ∧ Val q V 4 (.agg (nums .u8 r).toArray) ∧ Val q V 5 (.int .i64 i) ∧ Val q V 6 (.string ⟨t.toArray⟩) ∧ Val q V 7 (.agg (nums .u8 D).toArray) ∧ Val q V 8 (.tuple #[.agg (nums .u8 M).toArray, .int .i64 0]) ∧ Val q V 9 (.tuple #[.agg (nums .u8 M).toArray, .int .i64 0]) ∧ Val q V 10 (.agg (nums .u8 M).toArray) ∧ Val q V 11 (.int .i64 0) ∧ Put q V w2.heap.size 12 13 31 .u8 (List.replicate 16 0) M w' ∧ Late q 12 13) (fun _ => undef) (by kernel_rfl) (by kernel_rfl) (by kernel_rfl) (by simp only [List.take_succ_cons, List.take_zero, putAll, Act.put, List.setIfInBounds_toArray, List.set_cons_zero, List.set_cons_succ]) ⟨(Below.refl _ _).drew, Val.none, Val.none, Val.none, Val.none, Val.none, Val.none, Val.none, Val.none, Val.none, Val.none, Val.none, Val.none, Put.none, Late.none⟩ ?_ ?_
          · simp only [List.take_succ_cons, List.take_zero, putAll, Nat.zero_add, Nat.reduceAdd, Act.put, List.setIfInBounds_toArray, List.set_cons_zero, List.set_cons_succ]
            refine FreeSteps.cons ?_ (FreeSteps.cons ?_ (FreeSteps.cons ?_ (FreeSteps.cons ?_ (FreeSteps.cons ?_ (FreeSteps.cons ?_ (FreeSteps.cons ?_ (FreeSteps.cons ?_ (FreeSteps.cons ?_ (FreeSteps.cons ?_ (FreeSteps.cons ?_ (FreeSteps.cons ?_ (FreeSteps.cons ?_ (FreeSteps.cons ?_ (FreeSteps.nil))))))))))))))
            all_goals (refine FreeStep.fresh rfl ?_; rintro q V wq hr hu ⟨hB, h0, h1, h2, h3, h4, h5, h6, h7, h8, h9, h10, h11, hp, hl⟩ K hK)
            · exact op_move (.tmp 3) rfl (.string ⟨s.toArray⟩) rfl (hK _ _ ⟨hB, .same, h1.ne (by decide), h2.ne (by decide), h3.ne (by decide), h4.ne (by decide), h5.ne (by decide), h6.ne (by decide), h7.ne (by decide), h8.ne (by decide), h9.ne (by decide), h10.ne (by decide), h11.ne (by decide), hp.ne (by decide) (by decide) (Below.refl _ _), hl.ne (by decide)⟩)
            · exact op_slice_head 9 (.tmp 35) 560 rfl s (h0 (hr { on := 0, ground := .data } (by simp) rfl)) Tryd.underlying9 HSL.out (hK _ _ ⟨hB, h0.ne (by decide), .same, h2.ne (by decide), h3.ne (by decide), h4.ne (by decide), h5.ne (by decide), h6.ne (by decide), h7.ne (by decide), h8.ne (by decide), h9.ne (by decide), h10.ne (by decide), h11.ne (by decide), hp.ne (by decide) (by decide) (Below.refl _ _), hl.ne (by decide)⟩)
            · exact op_move (.tmp 1) rfl (.int .i64 i) rfl (hK _ _ ⟨hB, h0.ne (by decide), h1.ne (by decide), .same, h3.ne (by decide), h4.ne (by decide), h5.ne (by decide), h6.ne (by decide), h7.ne (by decide), h8.ne (by decide), h9.ne (by decide), h10.ne (by decide), h11.ne (by decide), hp.ne (by decide) (by decide) (Below.refl _ _), hl.ne (by decide)⟩)
            · exact op_field0 33 (.tmp 4) rfl gn rfl HFA.out (hK _ _ ⟨hB, h0.ne (by decide), h1.ne (by decide), h2.ne (by decide), .same, h4.ne (by decide), h5.ne (by decide), h6.ne (by decide), h7.ne (by decide), h8.ne (by decide), h9.ne (by decide), h10.ne (by decide), h11.ne (by decide), hp.ne (by decide) (by decide) (Below.refl _ _), hl.ne (by decide)⟩)
            · exact op_load_elem 31 (.tmp 38) rfl gn 0 r _ (h3 (hr { on := 3, ground := .data } (by simp) rfl)) (rangeAt_below HNR.out hB HGN.out) Tryd.underlying31 rfl HIR.out (hK _ _ ⟨hB, h0.ne (by decide), h1.ne (by decide), h2.ne (by decide), h3.ne (by decide), .same, h5.ne (by decide), h6.ne (by decide), h7.ne (by decide), h8.ne (by decide), h9.ne (by decide), h10.ne (by decide), h11.ne (by decide), hp.ne (by decide) (by decide) (Below.refl _ _), hl.ne (by decide)⟩)
            · exact op_move (.tmp 1) rfl (.int .i64 i) rfl (hK _ _ ⟨hB, h0.ne (by decide), h1.ne (by decide), h2.ne (by decide), h3.ne (by decide), h4.ne (by decide), .same, h6.ne (by decide), h7.ne (by decide), h8.ne (by decide), h9.ne (by decide), h10.ne (by decide), h11.ne (by decide), hp.ne (by decide) (by decide) (Below.refl _ _), hl.ne (by decide)⟩)
            · exact op_move (.tmp 2) rfl (.string ⟨t.toArray⟩) rfl (hK _ _ ⟨hB, h0.ne (by decide), h1.ne (by decide), h2.ne (by decide), h3.ne (by decide), h4.ne (by decide), h5.ne (by decide), .same, h7.ne (by decide), h8.ne (by decide), h9.ne (by decide), h10.ne (by decide), h11.ne (by decide), hp.ne (by decide) (by decide) (Below.refl _ _), hl.ne (by decide)⟩)
            · refine op_call Tryd.func16 rfl rfl rfl [.agg (nums .u8 r).toArray, .int .i64 i, .string ⟨t.toArray⟩] (cons_eq (h4 (hr { on := 4, ground := .data } (by simp) rfl)) (cons_eq (h5 (hr { on := 5, ground := .data } (by simp) rfl)) (cons_eq (h6 (hr { on := 6, ground := .data } (by simp) rfl)) rfl))) (HDG.out wq (HK2.out.below hB)) ?_
              rintro e w' ⟨rfl, hb⟩
              exact ⟨_, rfl, hK _ _ ⟨hB.trans (hb.mono hB.size), h0.ne (by decide), h1.ne (by decide), h2.ne (by decide), h3.ne (by decide), h4.ne (by decide), h5.ne (by decide), h6.ne (by decide), .same, h8.ne (by decide), h9.ne (by decide), h10.ne (by decide), h11.ne (by decide), hp.ne (by decide) (by decide) hb, hl.ne (by decide)⟩⟩
            · refine op_call Tryd.func39 rfl rfl rfl [.string ⟨(s.take 560).toArray⟩, .int .i64 i, .agg (nums .u8 D).toArray] (cons_eq (h1 (hr { on := 1, ground := .data } (by simp) rfl)) (cons_eq (h2 (hr { on := 2, ground := .data } (by simp) rfl)) (cons_eq (h7 (hr { on := 7, ground := .data } (by simp) rfl)) rfl))) (HMT.out wq (HK2.out.below hB)) ?_
              rintro e w' ⟨rfl, hb⟩
              exact ⟨_, rfl, hK _ _ ⟨hB.trans (hb.mono hB.size), h0.ne (by decide), h1.ne (by decide), h2.ne (by decide), h3.ne (by decide), h4.ne (by decide), h5.ne (by decide), h6.ne (by decide), h7.ne (by decide), .same, h9.ne (by decide), h10.ne (by decide), h11.ne (by decide), hp.ne (by decide) (by decide) hb, hl.ne (by decide)⟩⟩
            · exact op_move (.tmp 43) rfl _ (h8 (hr { on := 8, ground := .data } (by simp) rfl)) (hK _ _ ⟨hB, h0.ne (by decide), h1.ne (by decide), h2.ne (by decide), h3.ne (by decide), h4.ne (by decide), h5.ne (by decide), h6.ne (by decide), h7.ne (by decide), h8.ne (by decide), .same, h10.ne (by decide), h11.ne (by decide), hp.ne (by decide) (by decide) (Below.refl _ _), hl.ne (by decide)⟩)
            · exact op_extract (.tmp 34) 0 rfl _ _ (h9 (hr { on := 9, ground := .data } (by simp) rfl)) rfl (hK _ _ ⟨hB, h0.ne (by decide), h1.ne (by decide), h2.ne (by decide), h3.ne (by decide), h4.ne (by decide), h5.ne (by decide), h6.ne (by decide), h7.ne (by decide), h8.ne (by decide), h9.ne (by decide), .same, h11.ne (by decide), hp.ne (by decide) (by decide) (Below.refl _ _), hl.ne (by decide)⟩)
            · exact op_extract (.tmp 34) 1 rfl _ _ (h9 (hr { on := 9, ground := .data } (by simp) rfl)) rfl (hK _ _ ⟨hB, h0.ne (by decide), h1.ne (by decide), h2.ne (by decide), h3.ne (by decide), h4.ne (by decide), h5.ne (by decide), h6.ne (by decide), h7.ne (by decide), h8.ne (by decide), h9.ne (by decide), h10.ne (by decide), .same, hp.ne (by decide) (by decide) (Below.refl _ _), hl.ne (by decide)⟩)
            · have hb : Below wq.heap.size wq (wq.alloc (.cells (nums .u8 (List.replicate 16 0)).toArray 31)) := (Below.refl _ _).alloc (Nat.le_refl _) _
              exact op_alloc 31 rfl _ HAL.out (hK _ _ ⟨hB.trans (hb.mono hB.size), h0.ne (by decide), h1.ne (by decide), h2.ne (by decide), h3.ne (by decide), h4.ne (by decide), h5.ne (by decide), h6.ne (by decide), h7.ne (by decide), h8.ne (by decide), h9.ne (by decide), h10.ne (by decide), h11.ne (by decide), .made hB.size (hl.not hu) (by decide), hl.ne (by decide)⟩)
            · have h12 : q 12 = true := hr { on := 12, ground := .data } (by simp) rfl
              obtain ⟨g, hg0, hg1, hg2⟩ := hp h12
              rw [if_neg (by rw [hu]; decide)] at hg2
              refine op_store_nums 31 (.tmp 9) (.tmp 44) rfl g .u8 _ M 31 hg0 (h10 (hr { on := 10, ground := .data } (by simp) rfl)) hg2 HIM.out HLM.out ?_
              intro w' hx hb
              exact hK _ _ ⟨But.toBelow hB hb hg1 hB.size, h0.ne (by decide), h1.ne (by decide), h2.ne (by decide), h3.ne (by decide), h4.ne (by decide), h5.ne (by decide), h6.ne (by decide), h7.ne (by decide), h8.ne (by decide), h9.ne (by decide), h10.ne (by decide), h11.ne (by decide), .stored hg0 hg1 (by decide) hx, .same h12⟩
          rintro q V w3 hall ⟨hB, h0, h1, h2, h3, h4, h5, h6, h7, h8, h9, h10, h11, hp, hl⟩
          have v0 := h0 (hall 0 (by decide))
          have v1 := h1 (hall 1 (by decide))
          have v2 := h2 (hall 2 (by decide))
          have v3 := h3 (hall 3 (by decide))
          have v4 := h4 (hall 4 (by decide))
          have v5 := h5 (hall 5 (by decide))
          have v6 := h6 (hall 6 (by decide))
          have v7 := h7 (hall 7 (by decide))
          have v8 := h8 (hall 8 (by decide))
          have v9 := h9 (hall 9 (by decide))
          have v10 := h10 (hall 10 (by decide))
          have v11 := h11 (hall 11 (by decide))
          obtain ⟨gy, v12, hgy, hy⟩ := hp (hall 12 (by decide))
          rw [if_pos (hall 13 (by decide))] at hy
          simp only [List.take_succ_cons, List.take_zero, List.drop_succ_cons, List.drop_zero, putAll, Nat.zero_add, Nat.reduceAdd, v0, v1, v2, v3, v4, v5, v6, v7, v8, v9, v10, v11, v12, Act.put, List.setIfInBounds_toArray, List.set_cons_zero, List.set_cons_succ]
          clear h0 h1 h2 h3 h4 h5 h6 h7 h8 h9 h10 h11 hp hl v0 v1 v2 v3 v4 v5 v6 v7 v8 v9 v10 v11 v12 hall HAL
          have HN3 := Lib.hid (HN1.out.below hB)
          have HY3 := Lib.hid hy
          have HB3 := Lib.hid (HB1.out.trans (hB.mono HB1.out.size))
          have HK3 := Lib.hid (HK2.out.below hB)
          clear hB hy hgy HNR HGN HDG HMT HFA HN1 HB1 HK2 hc1 hl2 hge
          have HPL := Shut.mk (pathK_len s n)
          have HPE := Lib.hid (pathK_elems (sig := s) (h := n) (by omega))
          have HEL := Lib.hid (fun w => (dev_elems (s.drop 560) n w (by rw [List.length_drop]; omega) (by omega)).mono (R' := fun e w' => (∃ ao co, e = .returned (.slice ao n co) ∧ EAt ao (pathK s n) w') ∧ Below w.heap.size w w') fun e w' he => by
            obtain ⟨⟨v, rfl, ho⟩, hb⟩ := he
            rw [cutE_drop] at ho
            obtain ⟨ao, co, rfl⟩ := ho.form
            rw [HPL.out] at ho ⊢
            exact ⟨⟨ao, co, rfl, ho.at HPE.out⟩, hb⟩)
          have HCM := Lib.hid (fun ao co w hE hk => dev_climb M i (pathK s n) ao co w HM1.out HM2.out i0 i1 HPE.out hE (by rw [HPL.out]; omega) hk)
          rw [HPL.out] at HCM
          have hV := HIS.out ⟨by omega, by omega, hl⟩
          have HCL := climbN_len HM1.out i (pathK s n) n
          have HCT := climbN_lt HM2.out i (pathK s n) n
          obtain ⟨C, hC⟩ : ∃ C, climbN M i (pathK s n) n = C := ⟨_, rfl⟩
          rw [hC] at hV HCM HCL HCT
          have he1 := fun w => equal_elem C r HCL HR.out HCT LR.out w
          rw [← hV] at he1
          have HEQ := Lib.hid (show ∀ w, (binOp .eql 31 (.agg (nums .u8 C).toArray) (.agg (nums .u8 r).toArray)).run Tryd.prog w = .ok (.bool VV) w from fun w => by simp [binOp, Op.equal, Op.maxDepth, he1])
          have HEG := Lib.hid (show ∀ w, (eqGuard .eql 31 (.tmp 54) (.tmp 56) (.agg (nums .u8 C).toArray) (.agg (nums .u8 r).toArray)).run Tryd.prog w = .ok () w from fun w => run_eqGuard_agg w _ _ _ _ _ _ (by kernel_rfl))
          have HEQ0 := Lib.hid (show ∀ w, (binOp .eql 24 (.int .i64 0) (.int .i64 0)).run Tryd.prog w = .ok (.bool true) w from fun w => by go_simp)
          have HFA := Lib.hid (show ∀ w, (Instr.fieldAt 33 (.pointer (some ⟨gn, 0, none⟩)) 0).run Tryd.prog w = .ok (.pointer (some ⟨gn, 0, none⟩)) w from fun w => by go_simp)
          have HNR := Lib.hid (node_root HN3.out)
          have HGN := Lib.hid (show gn < w3.heap.size from HN3.out.lt)
          obtain ⟨E, hE⟩ : ∃ E, pathK s n = E := ⟨_, rfl⟩
          rw [hE] at HEL HCM
          clear hC hV he1 HCL HCT HPL HPE hE HN3
          go_upto_region 4 with (fail)
          refine wp_region_free 13 (fun q V w' => Below w3.heap.size w3 w' ∧ Val q V 0 (.int .i64 0) ∧ Val q V 1 (.bool true) ∧ Val q V 2 (.bool true) ∧ Val q V 3 (.agg (nums .u8 M).toArray) ∧ Val q V 4 (.int .i64 i) ∧ Val q V 5 (.string ⟨s.toArray⟩) ∧ Val q V 6 (.string ⟨(s.drop 560).toArray⟩) ∧ RowE q V 7 n E w' ∧ Val q V 8 (.agg (nums .u8 C).toArray) ∧ Val q V 9 (.pointer (some ⟨gn, 0, none⟩)) ∧ Val q V 10 (.agg (nums .u8 r).toArray) ∧ Val q V 11 (.bool VV) ∧ Val q V 12 (.bool VV)) (fun _ => undef) (by kernel_rfl) (by kernel_rfl) (by kernel_rfl) (by simp only [List.take_succ_cons, List.take_zero, putAll, Act.put, List.setIfInBounds_toArray, List.set_cons_zero, List.set_cons_succ]) ⟨(Below.refl _ _).drew, Val.none, Val.none, Val.none, Val.none, Val.none, Val.none, Val.none, RowE.none, Val.none, Val.none, Val.none, Val.none, Val.none⟩ ?_ ?_
          · simp only [List.take_succ_cons, List.take_zero, putAll, Nat.zero_add, Nat.reduceAdd, Act.put, List.setIfInBounds_toArray, List.set_cons_zero, List.set_cons_succ]
            refine FreeSteps.cons ?_ (FreeSteps.cons ?_ (FreeSteps.cons ?_ (FreeSteps.cons ?_ (FreeSteps.cons ?_ (FreeSteps.cons ?_ (FreeSteps.cons ?_ (FreeSteps.cons ?_ (FreeSteps.cons ?_ (FreeSteps.cons ?_ (FreeSteps.cons ?_ (FreeSteps.cons ?_ (FreeSteps.cons ?_ FreeSteps.nil))))))))))))
            · refine FreeStep.fresh rfl ?_
              rintro q V wq hr hu ⟨hB, h0, h1, h2, h3, h4, h5, h6, h7, h8, h9, h10, h11, h12⟩ K hK
              exact op_move (.tmp 10) rfl (.int .i64 0) rfl (hK _ _ ⟨hB, .same, h1.ne (by decide), h2.ne (by decide), h3.ne (by decide), h4.ne (by decide), h5.ne (by decide), h6.ne (by decide), h7.ne (by decide) (Below.refl _ _), h8.ne (by decide), h9.ne (by decide), h10.ne (by decide), h11.ne (by decide), h12.ne (by decide)⟩)
            · refine FreeStep.fresh rfl ?_
              rintro q V wq hr hu ⟨hB, h0, h1, h2, h3, h4, h5, h6, h7, h8, h9, h10, h11, h12⟩ K hK
              exact op_eqlv 24 24 (.tmp 46) (.const (.int .i64 0)) rfl (.int .i64 0) (.int .i64 0) true (h0 (hr { on := 0, ground := .data } (by simp) rfl)) rfl (fun w => rfl) HEQ0.out (hK _ _ ⟨hB, h0.ne (by decide), .same, h2.ne (by decide), h3.ne (by decide), h4.ne (by decide), h5.ne (by decide), h6.ne (by decide), h7.ne (by decide) (Below.refl _ _), h8.ne (by decide), h9.ne (by decide), h10.ne (by decide), h11.ne (by decide), h12.ne (by decide)⟩)
            · refine FreeStep.fresh rfl ?_
              rintro q V wq hr hu ⟨hB, h0, h1, h2, h3, h4, h5, h6, h7, h8, h9, h10, h11, h12⟩ K hK
              exact op_move (.tmp 47) rfl (.bool true) (h1 (hr { on := 1, ground := .data } (by simp) rfl)) (hK _ _ ⟨hB, h0.ne (by decide), h1.ne (by decide), .same, h3.ne (by decide), h4.ne (by decide), h5.ne (by decide), h6.ne (by decide), h7.ne (by decide) (Below.refl _ _), h8.ne (by decide), h9.ne (by decide), h10.ne (by decide), h11.ne (by decide), h12.ne (by decide)⟩)
            · refine FreeStep.asked 2 true rfl (fun V hV => by show (match some (V 2) with | some (.bool b) => some b | _ => none) = some true; rw [hV]) (fun q V wq hr hI => by obtain ⟨hB, h0, h1, h2, h3, h4, h5, h6, h7, h8, h9, h10, h11, h12⟩ := hI; exact h2 (hr { on := 2, ground := .guard } (by simp) rfl)) ?_
              rintro q V wq hr hu ⟨hB, h0, h1, h2, h3, h4, h5, h6, h7, h8, h9, h10, h11, h12⟩ K hK
              exact op_load_nums 31 (.tmp 9) rfl gy .u8 M 31 _ rfl (HY3.out.below hB) Tryd.underlying31 rfl HIM.out (hK _ _ ⟨hB, h0.ne (by decide), h1.ne (by decide), h2.ne (by decide), .same, h4.ne (by decide), h5.ne (by decide), h6.ne (by decide), h7.ne (by decide) (Below.refl _ _), h8.ne (by decide), h9.ne (by decide), h10.ne (by decide), h11.ne (by decide), h12.ne (by decide)⟩)
            · refine FreeStep.asked 2 true rfl (fun V hV => by show (match some (V 2) with | some (.bool b) => some b | _ => none) = some true; rw [hV]) (fun q V wq hr hI => by obtain ⟨hB, h0, h1, h2, h3, h4, h5, h6, h7, h8, h9, h10, h11, h12⟩ := hI; exact h2 (hr { on := 2, ground := .guard } (by simp) rfl)) ?_
              rintro q V wq hr hu ⟨hB, h0, h1, h2, h3, h4, h5, h6, h7, h8, h9, h10, h11, h12⟩ K hK
              exact op_move (.tmp 1) rfl (.int .i64 i) rfl (hK _ _ ⟨hB, h0.ne (by decide), h1.ne (by decide), h2.ne (by decide), h3.ne (by decide), .same, h5.ne (by decide), h6.ne (by decide), h7.ne (by decide) (Below.refl _ _), h8.ne (by decide), h9.ne (by decide), h10.ne (by decide), h11.ne (by decide), h12.ne (by decide)⟩)
            · refine FreeStep.asked 2 true rfl (fun V hV => by show (match some (V 2) with | some (.bool b) => some b | _ => none) = some true; rw [hV]) (fun q V wq hr hI => by obtain ⟨hB, h0, h1, h2, h3, h4, h5, h6, h7, h8, h9, h10, h11, h12⟩ := hI; exact h2 (hr { on := 2, ground := .guard } (by simp) rfl)) ?_
              rintro q V wq hr hu ⟨hB, h0, h1, h2, h3, h4, h5, h6, h7, h8, h9, h10, h11, h12⟩ K hK
              exact op_move (.tmp 3) rfl (.string ⟨s.toArray⟩) rfl (hK _ _ ⟨hB, h0.ne (by decide), h1.ne (by decide), h2.ne (by decide), h3.ne (by decide), h4.ne (by decide), .same, h6.ne (by decide), h7.ne (by decide) (Below.refl _ _), h8.ne (by decide), h9.ne (by decide), h10.ne (by decide), h11.ne (by decide), h12.ne (by decide)⟩)
            · refine FreeStep.asked 2 true rfl (fun V hV => by show (match some (V 2) with | some (.bool b) => some b | _ => none) = some true; rw [hV]) (fun q V wq hr hI => by obtain ⟨hB, h0, h1, h2, h3, h4, h5, h6, h7, h8, h9, h10, h11, h12⟩ := hI; exact h2 (hr { on := 2, ground := .guard } (by simp) rfl)) ?_
              rintro q V wq hr hu ⟨hB, h0, h1, h2, h3, h4, h5, h6, h7, h8, h9, h10, h11, h12⟩ K hK
              exact op_slice_tail 9 (.tmp 51) 560 rfl s (h5 (hr { on := 5, ground := .data } (by simp) rfl)) Tryd.underlying9 HSL.out (hK _ _ ⟨hB, h0.ne (by decide), h1.ne (by decide), h2.ne (by decide), h3.ne (by decide), h4.ne (by decide), h5.ne (by decide), .same, h7.ne (by decide) (Below.refl _ _), h8.ne (by decide), h9.ne (by decide), h10.ne (by decide), h11.ne (by decide), h12.ne (by decide)⟩)
            · refine FreeStep.asked 2 true rfl (fun V hV => by show (match some (V 2) with | some (.bool b) => some b | _ => none) = some true; rw [hV]) (fun q V wq hr hI => by obtain ⟨hB, h0, h1, h2, h3, h4, h5, h6, h7, h8, h9, h10, h11, h12⟩ := hI; exact h2 (hr { on := 2, ground := .guard } (by simp) rfl)) ?_
              rintro q V wq hr hu ⟨hB, h0, h1, h2, h3, h4, h5, h6, h7, h8, h9, h10, h11, h12⟩ K hK
              refine op_call Tryd.func41 rfl rfl rfl [.string ⟨(s.drop 560).toArray⟩] (cons_eq (h6 (hr { on := 6, ground := .data } (by simp) rfl)) rfl) (HEL.out wq) ?_
              rintro e w' ⟨⟨ao, co, rfl, hE⟩, hb⟩
              exact ⟨_, rfl, hK _ _ ⟨hB.trans (hb.mono hB.size), h0.ne (by decide), h1.ne (by decide), h2.ne (by decide), h3.ne (by decide), h4.ne (by decide), h5.ne (by decide), h6.ne (by decide), .same hE, h8.ne (by decide), h9.ne (by decide), h10.ne (by decide), h11.ne (by decide), h12.ne (by decide)⟩⟩
            · refine FreeStep.asked 2 true rfl (fun V hV => by show (match some (V 2) with | some (.bool b) => some b | _ => none) = some true; rw [hV]) (fun q V wq hr hI => by obtain ⟨hB, h0, h1, h2, h3, h4, h5, h6, h7, h8, h9, h10, h11, h12⟩ := hI; exact h2 (hr { on := 2, ground := .guard } (by simp) rfl)) ?_
              rintro q V wq hr hu ⟨hB, h0, h1, h2, h3, h4, h5, h6, h7, h8, h9, h10, h11, h12⟩ K hK
              obtain ⟨ao, co, hv7, hE7⟩ := (h7 (hr { on := 7, ground := .data } (by simp) rfl))
              refine op_call Tryd.func40 rfl rfl rfl [.agg (nums .u8 M).toArray, .int .i64 i, .slice ao n co] (cons_eq (h3 (hr { on := 3, ground := .data } (by simp) rfl)) (cons_eq (h4 (hr { on := 4, ground := .data } (by simp) rfl)) (cons_eq hv7 rfl))) (HCM.out ao co wq hE7 (HK3.out.below hB)) ?_
              rintro e w' ⟨rfl, hb⟩
              exact ⟨_, rfl, hK _ _ ⟨hB.trans (hb.mono hB.size), h0.ne (by decide), h1.ne (by decide), h2.ne (by decide), h3.ne (by decide), h4.ne (by decide), h5.ne (by decide), h6.ne (by decide), h7.ne (by decide) hb, .same, h9.ne (by decide), h10.ne (by decide), h11.ne (by decide), h12.ne (by decide)⟩⟩
            · refine FreeStep.asked 2 true rfl (fun V hV => by show (match some (V 2) with | some (.bool b) => some b | _ => none) = some true; rw [hV]) (fun q V wq hr hI => by obtain ⟨hB, h0, h1, h2, h3, h4, h5, h6, h7, h8, h9, h10, h11, h12⟩ := hI; exact h2 (hr { on := 2, ground := .guard } (by simp) rfl)) ?_
              rintro q V wq hr hu ⟨hB, h0, h1, h2, h3, h4, h5, h6, h7, h8, h9, h10, h11, h12⟩ K hK
              exact op_field0 33 (.tmp 4) rfl gn rfl HFA.out (hK _ _ ⟨hB, h0.ne (by decide), h1.ne (by decide), h2.ne (by decide), h3.ne (by decide), h4.ne (by decide), h5.ne (by decide), h6.ne (by decide), h7.ne (by decide) (Below.refl _ _), h8.ne (by decide), .same, h10.ne (by decide), h11.ne (by decide), h12.ne (by decide)⟩)
            · refine FreeStep.asked 2 true rfl (fun V hV => by show (match some (V 2) with | some (.bool b) => some b | _ => none) = some true; rw [hV]) (fun q V wq hr hI => by obtain ⟨hB, h0, h1, h2, h3, h4, h5, h6, h7, h8, h9, h10, h11, h12⟩ := hI; exact h2 (hr { on := 2, ground := .guard } (by simp) rfl)) ?_
              rintro q V wq hr hu ⟨hB, h0, h1, h2, h3, h4, h5, h6, h7, h8, h9, h10, h11, h12⟩ K hK
              exact op_load_elem 31 (.tmp 55) rfl gn 0 r _ (h9 (hr { on := 9, ground := .data } (by simp) rfl)) (rangeAt_below HNR.out hB HGN.out) Tryd.underlying31 rfl HIR.out (hK _ _ ⟨hB, h0.ne (by decide), h1.ne (by decide), h2.ne (by decide), h3.ne (by decide), h4.ne (by decide), h5.ne (by decide), h6.ne (by decide), h7.ne (by decide) (Below.refl _ _), h8.ne (by decide), h9.ne (by decide), .same, h11.ne (by decide), h12.ne (by decide)⟩)
            · refine FreeStep.asked 2 true rfl (fun V hV => by show (match some (V 2) with | some (.bool b) => some b | _ => none) = some true; rw [hV]) (fun q V wq hr hI => by obtain ⟨hB, h0, h1, h2, h3, h4, h5, h6, h7, h8, h9, h10, h11, h12⟩ := hI; exact h2 (hr { on := 2, ground := .guard } (by simp) rfl)) ?_
              rintro q V wq hr hu ⟨hB, h0, h1, h2, h3, h4, h5, h6, h7, h8, h9, h10, h11, h12⟩ K hK
              exact op_eqlv 31 31 (.tmp 54) (.tmp 56) rfl (.agg (nums .u8 C).toArray) (.agg (nums .u8 r).toArray) VV (h8 (hr { on := 8, ground := .data } (by simp) rfl)) (h10 (hr { on := 10, ground := .data } (by simp) rfl)) HEG.out HEQ.out (hK _ _ ⟨hB, h0.ne (by decide), h1.ne (by decide), h2.ne (by decide), h3.ne (by decide), h4.ne (by decide), h5.ne (by decide), h6.ne (by decide), h7.ne (by decide) (Below.refl _ _), h8.ne (by decide), h9.ne (by decide), h10.ne (by decide), .same, h12.ne (by decide)⟩)
            · refine FreeStep.fresh rfl ?_
              rintro q V wq hr hu ⟨hB, h0, h1, h2, h3, h4, h5, h6, h7, h8, h9, h10, h11, h12⟩ K hK
              exact op_pick_yes (.tmp 48) (.tmp 57) (.const (.bool false)) rfl (h2 (hr { on := 2, ground := .data } (by simp) rfl)) (.bool VV) (h11 (hr { on := 11, ground := .data } (by simp) rfl)) (hK _ _ ⟨hB, h0.ne (by decide), h1.ne (by decide), h2.ne (by decide), h3.ne (by decide), h4.ne (by decide), h5.ne (by decide), h6.ne (by decide), h7.ne (by decide) (Below.refl _ _), h8.ne (by decide), h9.ne (by decide), h10.ne (by decide), h11.ne (by decide), .same⟩)
          rintro q V w4 hall ⟨hB, h0, h1, h2, h3, h4, h5, h6, h7, h8, h9, h10, h11, h12⟩
          have v0 := h0 (hall 0 (by decide))
          have v1 := h1 (hall 1 (by decide))
          have v2 := h2 (hall 2 (by decide))
          have v3 := h3 (hall 3 (by decide))
          have v4 := h4 (hall 4 (by decide))
          have v5 := h5 (hall 5 (by decide))
          have v6 := h6 (hall 6 (by decide))
          have v8 := h8 (hall 8 (by decide))
          have v9 := h9 (hall 9 (by decide))
          have v10 := h10 (hall 10 (by decide))
          have v11 := h11 (hall 11 (by decide))
          have v12 := h12 (hall 12 (by decide))
          obtain ⟨ao7, co7, v7, _⟩ := h7 (hall 7 (by decide))
          simp only [List.take_succ_cons, List.take_zero, List.drop_succ_cons, List.drop_zero, putAll, Nat.zero_add, Nat.reduceAdd, v0, v1, v2, v3, v4, v5, v6, v7, v8, v9, v10, v11, v12, Act.put, List.setIfInBounds_toArray, List.set_cons_zero, List.set_cons_succ]
          have HB4 := Lib.hid (HB3.out.trans (hB.mono HB3.out.size))
          clear h0 h1 h2 h3 h4 h5 h6 h7 h8 h9 h10 h11 h12 v0 v1 v2 v3 v4 v5 v6 v7 v8 v9 v10 v11 v12 hall hB
          go_wp2_with fail
          go_ret
          exact ⟨rfl, HB4.out⟩
        · have hl2 : ((s.length : Int) != 560 + 16 * (n : Int)) = true := by simp; omega
          go_wp2_with fail
          go_ret
          exact ⟨by rw [HNOT.out (fun h => hl h.2.2)]; rfl, HB1.out⟩
  · have HD := Shut.mk (decide_eq_false hv)
    rw [HWZ.out (by omega)] at HNOT
    clear HIS
    go_wp2_with fail
    refine (dev_valid h w1 false HD.out).mono ?_
    rintro e w2 ⟨rfl, rfl⟩
    go_wp2_with fail
    go_ret
    exact ⟨by rw [HNOT.out (by omega)]; rfl, HB1.out⟩
end Go.Proofs.YtcjjhddppcmgoaaDoor
