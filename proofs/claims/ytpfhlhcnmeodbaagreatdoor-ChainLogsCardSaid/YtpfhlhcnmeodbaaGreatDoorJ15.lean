/-
  Joined: The developers' Verify.; The developers' Check of layer 16.; A script of calls on logs that came in.; Two logs, and the nodes that are asked, side by side; entries put behind others in new memory.; An operator of one operand whose answer is known, in a region whose order is open.
-/
import Derived.Test.YtpfhlhcnmeodbaaGreatDoorJ07
import Derived.Test.YtpfhlhcnmeodbaaGreatDoorJ08
import Derived.Test.YtpfhlhcnmeodbaaGreatDoorJ11
import Derived.Test.YtpfhlhcnmeodbaaGreatDoorJ12
import Derived.Test.YtpfhlhcnmeodbaaGreatDoorJ14
namespace Go.Proofs.YtpfhlhcnmeodbaaGreatDoor
open Go.RowKit Go.BigFrame
set_option maxHeartbeats 4000000 in
set_option maxRecDepth 100000 in
theorem dev_verify6 (r : List Nat) (h i : Int) (t s : List UInt8) (w : World) (hr : r.length = 16) (lr : ∀ y ∈ r, y < 256) (h0 : -9223372036854775808 ≤ h) (h1 : h ≤ 9223372036854775807) (i0 : -9223372036854775808 ≤ i) (i1 : i ≤ 9223372036854775807)
    (ht : t.length ≤ 1000000) (_hs : s.length ≤ 1000000) (hk : KAt w) :
    Calls Tryz.prog 30 #[.agg (nodeV r h), .int .i64 i, .string ⟨t.toArray⟩, .string ⟨s.toArray⟩] w fun e w' => e = .returned (.bool (verK r h i t s)) ∧ Below w.heap.size w w' := by
  have HR := Lib.hid hr
  have LR := Lib.hid lr
  have HK := Lib.hid hk
  have HNOT := Shut.mk (fun hb => verK_not (root := r) (h := h) (i := i) (text := t) (sig := s) hb)
  have HIS := Shut.mk (fun hb => verK_is (root := r) (h := h) (i := i) (text := t) (sig := s) hb)
  have HWZ := Shut.mk (wideN_zero (h := h))
  obtain ⟨VV, hV⟩ : ∃ VV, verK r h i t s = VV := ⟨_, rfl⟩
  rw [hV] at HNOT HIS ⊢
  clear hr lr hV hk
  go_enter Tryz.func30, Tryz.ntmps30
  go_upto_region 1 with (fail)
  obtain ⟨w1, hw1⟩ : ∃ x', x' = w.alloc (.cells (nodeV r h) 31) := ⟨_, rfl⟩
  rw [← hw1]
  have hb1 : Below w.heap.size w w1 := by rw [hw1]; exact (Below.refl _ _).alloc (Nat.le_refl _) _
  have hn1 : Cells w.heap.size 31 (nodeV r h) w1 := by rw [hw1]; exact heap_alloc_new w _
  have HN1 := Lib.hid hn1
  have HB1 := Lib.hid hb1
  have HK2 := Lib.hid (HK.out.below hb1)
  have hc1 := node_height HR.out hn1
  obtain ⟨gn, hgn⟩ : ∃ g, g = w.heap.size := ⟨_, rfl⟩
  rw [← hgn] at HN1 hc1 ⊢
  clear hb1 hn1 hw1 hgn HK
  by_cases hv : 1 ≤ h ∧ h ≤ 8
  · have HD := Shut.mk (decide_eq_true hv)
    obtain ⟨n, rfl⟩ : ∃ n : Nat, h = n := ⟨h.toNat, by omega⟩
    have hn1 : 1 ≤ n := by omega
    have hn8 : n ≤ 8 := by omega
    rw [wideN_ok hn1 hn8] at HNOT HIS
    rw [Int.toNat_natCast] at HNOT HIS
    have hsh := shl_two hn8
    have hw8 := two_le hn8
    obtain ⟨W, hW⟩ : ∃ W, 2 ^ n = W := ⟨_, rfl⟩
    rw [hW] at HNOT HIS hsh hw8
    clear hW HWZ hv
    by_cases hi : i < 0
    · clear hsh
      go_wp2_with fail
      refine (dev_valid n w1 true HD.out).mono ?_
      rintro e w2 ⟨rfl, rfl⟩
      go_wp2_with fail
      go_ret
      exact ⟨by rw [HNOT.out (by omega)]; rfl, HB1.out⟩
    · by_cases hiw : (W : Int) ≤ i
      · have hge : wrap64 ((2 : Int) ^ n) ≤ i := by rw [hsh]; exact hiw
        clear hsh
        go_wp2_with fail
        refine (dev_valid n w1 true HD.out).mono ?_
        rintro e w2 ⟨rfl, rfl⟩
        go_wp2_with fail
        go_ret
        exact ⟨by rw [HNOT.out (by omega)]; rfl, HB1.out⟩
      · have hge : ¬ wrap64 ((2 : Int) ^ n) ≤ i := by rw [hsh]; exact hiw
        clear hsh
        go_wp2_with fail
        refine (dev_valid n w1 true HD.out).mono ?_
        rintro e wv ⟨rfl, rfl⟩
        go_wp2_with fail
        refine (dev_sizeK n wv (by omega) (by omega)).mono ?_
        rintro e w2 ⟨rfl, hb2⟩
        have HNb := Lib.hid (HN1.out.below hb2)
        have HBb := Lib.hid (HB1.out.trans (hb2.mono HB1.out.size))
        have HKb := Lib.hid (HK2.out.below hb2)
        clear hb2 HN1 HB1 HK2 hc1
        obtain ⟨HN1, HB1, HK2⟩ : _ ∧ _ ∧ _ := ⟨HNb, HBb, HKb⟩
        clear HNb HBb HKb
        have hc1 := node_height HR.out HN1.out
        by_cases hl : s.length = 560 + 16 * n
        · have hl2 : ((s.length : Int) != 560 + 16 * (n : Int)) = false := by simp; omega
          have HSL := Lib.hid (show 560 ≤ s.length by omega)
          have HFA := Lib.hid (show ∀ w, (Instr.fieldAt 31 (.pointer (some ⟨gn, 0, none⟩)) 0).run Tryz.prog w = .ok (.pointer (some ⟨gn, 0, none⟩)) w from fun w => by go_simp)
          have HNR := Lib.hid (node_root HN1.out)
          have HGN := Lib.hid (show gn < w2.heap.size from HN1.out.lt)
          have HIR := Lib.hid (show (Tryz.prog.info? 29).map (·.size) = some r.length by rw [HR.out]; exact Tryz.infoE)
          have HDG := Lib.hid (fun w hk => dev_digest6 r i t w HR.out LR.out i0 i1 ht hk)
          have hd1 := digK_len r i t
          have hd2 := digK_lt r i t
          obtain ⟨D, hD⟩ : ∃ D, digK r i t = D := ⟨_, rfl⟩
          rw [hD] at HDG hd1 hd2 HIS
          have HMT := Lib.hid (fun w hk => dev_meet (s.take 560) i D w (by rw [List.length_take]; omega) i0 i1 hd1 hd2 hk)
          rw [meetN_take] at HMT
          have hm1 := keyN_len (rowE (metF s i D) 35) i
          have hm2 := keyN_lt (rowE (metF s i D) 35) i
          rw [show keyN (rowE (metF s i D) 35) i = meetN s i D from rfl] at hm1 hm2
          obtain ⟨M, hM⟩ : ∃ M, meetN s i D = M := ⟨_, rfl⟩
          rw [hM] at HMT hm1 hm2 HIS
          have HIM := Lib.hid (show (Tryz.prog.info? 29).map (·.size) = some M.length by rw [hm1]; exact Tryz.infoE)
          have HLM := Lib.hid (show (List.replicate 16 0).length = M.length by rw [hm1]; rfl)
          have HM1 := Lib.hid hm1
          have HM2 := Lib.hid hm2
          clear hD hM hd1 hd2 hm1 hm2
          go_upto_region 3 with (fail)
          have HAL := Lib.hid (show ∀ w : World, (Instr.alloc 29 true (.tuple #[])).run Tryz.prog w = .ok (.pointer (some ⟨w.heap.size, 0, none⟩)) (w.alloc (.cells (nums .u8 (List.replicate 16 0)).toArray 29)) from fun w => by kernel_rfl)
          refine wp_region_free 14 (fun q V w' => Below w2.heap.size w2 w' ∧ Val q V 0 (.string ⟨s.toArray⟩) ∧ Val q V 1 (.string ⟨(s.take 560).toArray⟩) ∧ Val q V 2 (.int .i64 i) ∧ Val q V 3 (.pointer (some ⟨gn, 0, none⟩)) ∧ Val q V 4 (.agg (nums .u8 r).toArray) ∧ Val q V 5 (.int .i64 i) ∧ Val q V 6 (.string ⟨t.toArray⟩) ∧ Val q V 7 (.agg (nums .u8 D).toArray) ∧ Val q V 8 (.tuple #[.agg (nums .u8 M).toArray, .int .i64 0]) ∧ Val q V 9 (.tuple #[.agg (nums .u8 M).toArray, .int .i64 0]) ∧ Val q V 10 (.agg (nums .u8 M).toArray) ∧ Val q V 11 (.int .i64 0) ∧ Put q V w2.heap.size 12 13 29 .u8 (List.replicate 16 0) M w' ∧ Late q 12 13) (fun _ => undef) (by kernel_rfl) (by kernel_rfl) (by kernel_rfl) (by simp only [List.take_succ_cons, List.take_zero, putAll, Act.put, List.setIfInBounds_toArray, List.set_cons_zero, List.set_cons_succ]) ⟨(Below.refl _ _).drew, Val.none, Val.none, Val.none, Val.none, Val.none, Val.none, Val.none, Val.none, Val.none, Val.none, Val.none, Val.none, Put.none, Late.none⟩ ?_ ?_
          · simp only [List.take_succ_cons, List.take_zero, putAll, Nat.zero_add, Nat.reduceAdd, Act.put, List.setIfInBounds_toArray, List.set_cons_zero, List.set_cons_succ]
            refine FreeSteps.cons ?_ (FreeSteps.cons ?_ (FreeSteps.cons ?_ (FreeSteps.cons ?_ (FreeSteps.cons ?_ (FreeSteps.cons ?_ (FreeSteps.cons ?_ (FreeSteps.cons ?_ (FreeSteps.cons ?_ (FreeSteps.cons ?_ (FreeSteps.cons ?_ (FreeSteps.cons ?_ (FreeSteps.cons ?_ (FreeSteps.cons ?_ (FreeSteps.nil))))))))))))))
            all_goals (refine FreeStep.fresh rfl ?_; rintro q V wq hr hu ⟨hB, h0, h1, h2, h3, h4, h5, h6, h7, h8, h9, h10, h11, hp, hl⟩ K hK)
            · exact op_move (.tmp 3) rfl (.string ⟨s.toArray⟩) rfl (hK _ _ ⟨hB, .same, h1.ne (by decide), h2.ne (by decide), h3.ne (by decide), h4.ne (by decide), h5.ne (by decide), h6.ne (by decide), h7.ne (by decide), h8.ne (by decide), h9.ne (by decide), h10.ne (by decide), h11.ne (by decide), hp.ne (by decide) (by decide) (Below.refl _ _), hl.ne (by decide)⟩)
            · exact op_slice_head 9 (.tmp 35) 560 rfl s (h0 (hr { on := 0, ground := .data } (by simp) rfl)) Tryz.underlying9 HSL.out (hK _ _ ⟨hB, h0.ne (by decide), .same, h2.ne (by decide), h3.ne (by decide), h4.ne (by decide), h5.ne (by decide), h6.ne (by decide), h7.ne (by decide), h8.ne (by decide), h9.ne (by decide), h10.ne (by decide), h11.ne (by decide), hp.ne (by decide) (by decide) (Below.refl _ _), hl.ne (by decide)⟩)
            · exact op_move (.tmp 1) rfl (.int .i64 i) rfl (hK _ _ ⟨hB, h0.ne (by decide), h1.ne (by decide), .same, h3.ne (by decide), h4.ne (by decide), h5.ne (by decide), h6.ne (by decide), h7.ne (by decide), h8.ne (by decide), h9.ne (by decide), h10.ne (by decide), h11.ne (by decide), hp.ne (by decide) (by decide) (Below.refl _ _), hl.ne (by decide)⟩)
            · exact op_field0 31 (.tmp 4) rfl gn rfl HFA.out (hK _ _ ⟨hB, h0.ne (by decide), h1.ne (by decide), h2.ne (by decide), .same, h4.ne (by decide), h5.ne (by decide), h6.ne (by decide), h7.ne (by decide), h8.ne (by decide), h9.ne (by decide), h10.ne (by decide), h11.ne (by decide), hp.ne (by decide) (by decide) (Below.refl _ _), hl.ne (by decide)⟩)
            · exact op_load_elem 29 (.tmp 38) rfl gn 0 r _ (h3 (hr { on := 3, ground := .data } (by simp) rfl)) (rangeAt_below HNR.out hB HGN.out) Tryz.underlying29 rfl HIR.out (hK _ _ ⟨hB, h0.ne (by decide), h1.ne (by decide), h2.ne (by decide), h3.ne (by decide), .same, h5.ne (by decide), h6.ne (by decide), h7.ne (by decide), h8.ne (by decide), h9.ne (by decide), h10.ne (by decide), h11.ne (by decide), hp.ne (by decide) (by decide) (Below.refl _ _), hl.ne (by decide)⟩)
            · exact op_move (.tmp 1) rfl (.int .i64 i) rfl (hK _ _ ⟨hB, h0.ne (by decide), h1.ne (by decide), h2.ne (by decide), h3.ne (by decide), h4.ne (by decide), .same, h6.ne (by decide), h7.ne (by decide), h8.ne (by decide), h9.ne (by decide), h10.ne (by decide), h11.ne (by decide), hp.ne (by decide) (by decide) (Below.refl _ _), hl.ne (by decide)⟩)
            · exact op_move (.tmp 2) rfl (.string ⟨t.toArray⟩) rfl (hK _ _ ⟨hB, h0.ne (by decide), h1.ne (by decide), h2.ne (by decide), h3.ne (by decide), h4.ne (by decide), h5.ne (by decide), .same, h7.ne (by decide), h8.ne (by decide), h9.ne (by decide), h10.ne (by decide), h11.ne (by decide), hp.ne (by decide) (by decide) (Below.refl _ _), hl.ne (by decide)⟩)
            · refine op_call Tryz.func48 rfl rfl rfl [.agg (nums .u8 r).toArray, .int .i64 i, .string ⟨t.toArray⟩] (cons_eq (h4 (hr { on := 4, ground := .data } (by simp) rfl)) (cons_eq (h5 (hr { on := 5, ground := .data } (by simp) rfl)) (cons_eq (h6 (hr { on := 6, ground := .data } (by simp) rfl)) rfl))) (HDG.out wq (HK2.out.below hB)) ?_
              rintro e w' ⟨rfl, hb⟩
              exact ⟨_, rfl, hK _ _ ⟨hB.trans (hb.mono hB.size), h0.ne (by decide), h1.ne (by decide), h2.ne (by decide), h3.ne (by decide), h4.ne (by decide), h5.ne (by decide), h6.ne (by decide), .same, h8.ne (by decide), h9.ne (by decide), h10.ne (by decide), h11.ne (by decide), hp.ne (by decide) (by decide) hb, hl.ne (by decide)⟩⟩
            · refine op_call Tryz.func52 rfl rfl rfl [.string ⟨(s.take 560).toArray⟩, .int .i64 i, .agg (nums .u8 D).toArray] (cons_eq (h1 (hr { on := 1, ground := .data } (by simp) rfl)) (cons_eq (h2 (hr { on := 2, ground := .data } (by simp) rfl)) (cons_eq (h7 (hr { on := 7, ground := .data } (by simp) rfl)) rfl))) (HMT.out wq (HK2.out.below hB)) ?_
              rintro e w' ⟨rfl, hb⟩
              exact ⟨_, rfl, hK _ _ ⟨hB.trans (hb.mono hB.size), h0.ne (by decide), h1.ne (by decide), h2.ne (by decide), h3.ne (by decide), h4.ne (by decide), h5.ne (by decide), h6.ne (by decide), h7.ne (by decide), .same, h9.ne (by decide), h10.ne (by decide), h11.ne (by decide), hp.ne (by decide) (by decide) hb, hl.ne (by decide)⟩⟩
            · exact op_move (.tmp 43) rfl _ (h8 (hr { on := 8, ground := .data } (by simp) rfl)) (hK _ _ ⟨hB, h0.ne (by decide), h1.ne (by decide), h2.ne (by decide), h3.ne (by decide), h4.ne (by decide), h5.ne (by decide), h6.ne (by decide), h7.ne (by decide), h8.ne (by decide), .same, h10.ne (by decide), h11.ne (by decide), hp.ne (by decide) (by decide) (Below.refl _ _), hl.ne (by decide)⟩)
            · exact op_extract (.tmp 34) 0 rfl _ _ (h9 (hr { on := 9, ground := .data } (by simp) rfl)) rfl (hK _ _ ⟨hB, h0.ne (by decide), h1.ne (by decide), h2.ne (by decide), h3.ne (by decide), h4.ne (by decide), h5.ne (by decide), h6.ne (by decide), h7.ne (by decide), h8.ne (by decide), h9.ne (by decide), .same, h11.ne (by decide), hp.ne (by decide) (by decide) (Below.refl _ _), hl.ne (by decide)⟩)
            · exact op_extract (.tmp 34) 1 rfl _ _ (h9 (hr { on := 9, ground := .data } (by simp) rfl)) rfl (hK _ _ ⟨hB, h0.ne (by decide), h1.ne (by decide), h2.ne (by decide), h3.ne (by decide), h4.ne (by decide), h5.ne (by decide), h6.ne (by decide), h7.ne (by decide), h8.ne (by decide), h9.ne (by decide), h10.ne (by decide), .same, hp.ne (by decide) (by decide) (Below.refl _ _), hl.ne (by decide)⟩)
            · have hb : Below wq.heap.size wq (wq.alloc (.cells (nums .u8 (List.replicate 16 0)).toArray 29)) := (Below.refl _ _).alloc (Nat.le_refl _) _
              exact op_alloc 29 rfl _ HAL.out (hK _ _ ⟨hB.trans (hb.mono hB.size), h0.ne (by decide), h1.ne (by decide), h2.ne (by decide), h3.ne (by decide), h4.ne (by decide), h5.ne (by decide), h6.ne (by decide), h7.ne (by decide), h8.ne (by decide), h9.ne (by decide), h10.ne (by decide), h11.ne (by decide), .made hB.size (hl.not hu) (by decide), hl.ne (by decide)⟩)
            · have h12 : q 12 = true := hr { on := 12, ground := .data } (by simp) rfl
              obtain ⟨g, hg0, hg1, hg2⟩ := hp h12
              rw [if_neg (by rw [hu]; decide)] at hg2
              refine op_store_nums 29 (.tmp 9) (.tmp 44) rfl g .u8 _ M 29 hg0 (h10 (hr { on := 10, ground := .data } (by simp) rfl)) hg2 HIM.out HLM.out ?_
              intro w' hx hb
              exact hK _ _ ⟨But.toBelow hB hb hg1 hB.size, h0.ne (by decide), h1.ne (by decide), h2.ne (by decide), h3.ne (by decide), h4.ne (by decide), h5.ne (by decide), h6.ne (by decide), h7.ne (by decide), h8.ne (by decide), h9.ne (by decide), h10.ne (by decide), h11.ne (by decide), .stored hg0 hg1 (by decide) hx, .same h12⟩
          rintro q V w3 hall ⟨hB, h0, h1, h2, h3, h4, h5, h6, h7, h8, h9, h10, h11, hp, hl⟩
          have v0 := h0 (hall 0 (by decide))
          have v1 := h1 (hall 1 (by decide))
          have v2 := h2 (hall 2 (by decide))
          have v3 := h3 (hall 3 (by decide))
          have v4 := h4 (hall 4 (by decide))
          have v5 := h5 (hall 5 (by decide))
          have v6 := h6 (hall 6 (by decide))
          have v7 := h7 (hall 7 (by decide))
          have v8 := h8 (hall 8 (by decide))
          have v9 := h9 (hall 9 (by decide))
          have v10 := h10 (hall 10 (by decide))
          have v11 := h11 (hall 11 (by decide))
          obtain ⟨gy, v12, hgy, hy⟩ := hp (hall 12 (by decide))
          rw [if_pos (hall 13 (by decide))] at hy
          simp only [List.take_succ_cons, List.take_zero, List.drop_succ_cons, List.drop_zero, putAll, Nat.zero_add, Nat.reduceAdd, v0, v1, v2, v3, v4, v5, v6, v7, v8, v9, v10, v11, v12, Act.put, List.setIfInBounds_toArray, List.set_cons_zero, List.set_cons_succ]
          clear h0 h1 h2 h3 h4 h5 h6 h7 h8 h9 h10 h11 hp hl v0 v1 v2 v3 v4 v5 v6 v7 v8 v9 v10 v11 v12 hall HAL
          have HN3 := Lib.hid (HN1.out.below hB)
          have HY3 := Lib.hid hy
          have HB3 := Lib.hid (HB1.out.trans (hB.mono HB1.out.size))
          have HK3 := Lib.hid (HK2.out.below hB)
          clear hB hy hgy HNR HGN HDG HMT HFA HN1 HB1 HK2 hc1 hl2 hge
          have HPL := Shut.mk (pathK_len s n)
          have HPE := Lib.hid (pathK_elems (sig := s) (h := n) (by omega))
          have HEL := Lib.hid (fun w => (dev_elems (s.drop 560) n w (by rw [List.length_drop]; omega) (by omega)).mono (R' := fun e w' => (∃ ao co, e = .returned (.slice ao n co) ∧ EAt ao (pathK s n) w') ∧ Below w.heap.size w w') fun e w' he => by
            obtain ⟨⟨v, rfl, ho⟩, hb⟩ := he
            rw [cutE_drop] at ho
            obtain ⟨ao, co, rfl⟩ := ho.form
            rw [HPL.out] at ho ⊢
            exact ⟨⟨ao, co, rfl, ho.at HPE.out⟩, hb⟩)
          have HCM := Lib.hid (fun ao co w hE hk => dev_climb M i (pathK s n) ao co w HM1.out HM2.out i0 i1 HPE.out hE (by rw [HPL.out]; omega) hk)
          rw [HPL.out] at HCM
          have hV := HIS.out ⟨by omega, by omega, hl⟩
          have HCL := climbN_len HM1.out i (pathK s n) n
          have HCT := climbN_lt HM2.out i (pathK s n) n
          obtain ⟨C, hC⟩ : ∃ C, climbN M i (pathK s n) n = C := ⟨_, rfl⟩
          rw [hC] at hV HCM HCL HCT
          have he1 := fun w => equal_elem C r HCL HR.out HCT LR.out w
          rw [← hV] at he1
          have HEQ := Lib.hid (show ∀ w, (binOp .eql 29 (.agg (nums .u8 C).toArray) (.agg (nums .u8 r).toArray)).run Tryz.prog w = .ok (.bool VV) w from fun w => by simp [binOp, Op.equal, Op.maxDepth, he1])
          have HEG := Lib.hid (show ∀ w, (eqGuard .eql 29 (.tmp 54) (.tmp 56) (.agg (nums .u8 C).toArray) (.agg (nums .u8 r).toArray)).run Tryz.prog w = .ok () w from fun w => run_eqGuard_agg w _ _ _ _ _ _ (by kernel_rfl))
          have HEQ0 := Lib.hid (show ∀ w, (binOp .eql 46 (.int .i64 0) (.int .i64 0)).run Tryz.prog w = .ok (.bool true) w from fun w => by go_simp)
          have HFA := Lib.hid (show ∀ w, (Instr.fieldAt 31 (.pointer (some ⟨gn, 0, none⟩)) 0).run Tryz.prog w = .ok (.pointer (some ⟨gn, 0, none⟩)) w from fun w => by go_simp)
          have HNR := Lib.hid (node_root HN3.out)
          have HGN := Lib.hid (show gn < w3.heap.size from HN3.out.lt)
          obtain ⟨E, hE⟩ : ∃ E, pathK s n = E := ⟨_, rfl⟩
          rw [hE] at HEL HCM
          clear hC hV he1 HCL HCT HPL HPE hE HN3
          go_upto_region 4 with (fail)
          refine wp_region_free 13 (fun q V w' => Below w3.heap.size w3 w' ∧ Val q V 0 (.int .i64 0) ∧ Val q V 1 (.bool true) ∧ Val q V 2 (.bool true) ∧ Val q V 3 (.agg (nums .u8 M).toArray) ∧ Val q V 4 (.int .i64 i) ∧ Val q V 5 (.string ⟨s.toArray⟩) ∧ Val q V 6 (.string ⟨(s.drop 560).toArray⟩) ∧ RowE q V 7 n E w' ∧ Val q V 8 (.agg (nums .u8 C).toArray) ∧ Val q V 9 (.pointer (some ⟨gn, 0, none⟩)) ∧ Val q V 10 (.agg (nums .u8 r).toArray) ∧ Val q V 11 (.bool VV) ∧ Val q V 12 (.bool VV)) (fun _ => undef) (by kernel_rfl) (by kernel_rfl) (by kernel_rfl) (by simp only [List.take_succ_cons, List.take_zero, putAll, Act.put, List.setIfInBounds_toArray, List.set_cons_zero, List.set_cons_succ]) ⟨(Below.refl _ _).drew, Val.none, Val.none, Val.none, Val.none, Val.none, Val.none, Val.none, RowE.none, Val.none, Val.none, Val.none, Val.none, Val.none⟩ ?_ ?_
          · simp only [List.take_succ_cons, List.take_zero, putAll, Nat.zero_add, Nat.reduceAdd, Act.put, List.setIfInBounds_toArray, List.set_cons_zero, List.set_cons_succ]
            refine FreeSteps.cons ?_ (FreeSteps.cons ?_ (FreeSteps.cons ?_ (FreeSteps.cons ?_ (FreeSteps.cons ?_ (FreeSteps.cons ?_ (FreeSteps.cons ?_ (FreeSteps.cons ?_ (FreeSteps.cons ?_ (FreeSteps.cons ?_ (FreeSteps.cons ?_ (FreeSteps.cons ?_ (FreeSteps.cons ?_ FreeSteps.nil))))))))))))
            · refine FreeStep.fresh rfl ?_
              rintro q V wq hr hu ⟨hB, h0, h1, h2, h3, h4, h5, h6, h7, h8, h9, h10, h11, h12⟩ K hK
              exact op_move (.tmp 10) rfl (.int .i64 0) rfl (hK _ _ ⟨hB, .same, h1.ne (by decide), h2.ne (by decide), h3.ne (by decide), h4.ne (by decide), h5.ne (by decide), h6.ne (by decide), h7.ne (by decide) (Below.refl _ _), h8.ne (by decide), h9.ne (by decide), h10.ne (by decide), h11.ne (by decide), h12.ne (by decide)⟩)
            · refine FreeStep.fresh rfl ?_
              rintro q V wq hr hu ⟨hB, h0, h1, h2, h3, h4, h5, h6, h7, h8, h9, h10, h11, h12⟩ K hK
              exact op_eqlv 46 46 (.tmp 46) (.const (.int .i64 0)) rfl (.int .i64 0) (.int .i64 0) true (h0 (hr { on := 0, ground := .data } (by simp) rfl)) rfl (fun w => rfl) HEQ0.out (hK _ _ ⟨hB, h0.ne (by decide), .same, h2.ne (by decide), h3.ne (by decide), h4.ne (by decide), h5.ne (by decide), h6.ne (by decide), h7.ne (by decide) (Below.refl _ _), h8.ne (by decide), h9.ne (by decide), h10.ne (by decide), h11.ne (by decide), h12.ne (by decide)⟩)
            · refine FreeStep.fresh rfl ?_
              rintro q V wq hr hu ⟨hB, h0, h1, h2, h3, h4, h5, h6, h7, h8, h9, h10, h11, h12⟩ K hK
              exact op_move (.tmp 47) rfl (.bool true) (h1 (hr { on := 1, ground := .data } (by simp) rfl)) (hK _ _ ⟨hB, h0.ne (by decide), h1.ne (by decide), .same, h3.ne (by decide), h4.ne (by decide), h5.ne (by decide), h6.ne (by decide), h7.ne (by decide) (Below.refl _ _), h8.ne (by decide), h9.ne (by decide), h10.ne (by decide), h11.ne (by decide), h12.ne (by decide)⟩)
            · refine FreeStep.asked 2 true rfl (fun V hV => by show (match some (V 2) with | some (.bool b) => some b | _ => none) = some true; rw [hV]) (fun q V wq hr hI => by obtain ⟨hB, h0, h1, h2, h3, h4, h5, h6, h7, h8, h9, h10, h11, h12⟩ := hI; exact h2 (hr { on := 2, ground := .guard } (by simp) rfl)) ?_
              rintro q V wq hr hu ⟨hB, h0, h1, h2, h3, h4, h5, h6, h7, h8, h9, h10, h11, h12⟩ K hK
              exact op_load_nums 29 (.tmp 9) rfl gy .u8 M 29 _ rfl (HY3.out.below hB) Tryz.underlying29 rfl HIM.out (hK _ _ ⟨hB, h0.ne (by decide), h1.ne (by decide), h2.ne (by decide), .same, h4.ne (by decide), h5.ne (by decide), h6.ne (by decide), h7.ne (by decide) (Below.refl _ _), h8.ne (by decide), h9.ne (by decide), h10.ne (by decide), h11.ne (by decide), h12.ne (by decide)⟩)
            · refine FreeStep.asked 2 true rfl (fun V hV => by show (match some (V 2) with | some (.bool b) => some b | _ => none) = some true; rw [hV]) (fun q V wq hr hI => by obtain ⟨hB, h0, h1, h2, h3, h4, h5, h6, h7, h8, h9, h10, h11, h12⟩ := hI; exact h2 (hr { on := 2, ground := .guard } (by simp) rfl)) ?_
              rintro q V wq hr hu ⟨hB, h0, h1, h2, h3, h4, h5, h6, h7, h8, h9, h10, h11, h12⟩ K hK
              exact op_move (.tmp 1) rfl (.int .i64 i) rfl (hK _ _ ⟨hB, h0.ne (by decide), h1.ne (by decide), h2.ne (by decide), h3.ne (by decide), .same, h5.ne (by decide), h6.ne (by decide), h7.ne (by decide) (Below.refl _ _), h8.ne (by decide), h9.ne (by decide), h10.ne (by decide), h11.ne (by decide), h12.ne (by decide)⟩)
            · refine FreeStep.asked 2 true rfl (fun V hV => by show (match some (V 2) with | some (.bool b) => some b | _ => none) = some true; rw [hV]) (fun q V wq hr hI => by obtain ⟨hB, h0, h1, h2, h3, h4, h5, h6, h7, h8, h9, h10, h11, h12⟩ := hI; exact h2 (hr { on := 2, ground := .guard } (by simp) rfl)) ?_
              rintro q V wq hr hu ⟨hB, h0, h1, h2, h3, h4, h5, h6, h7, h8, h9, h10, h11, h12⟩ K hK
              exact op_move (.tmp 3) rfl (.string ⟨s.toArray⟩) rfl (hK _ _ ⟨hB, h0.ne (by decide), h1.ne (by decide), h2.ne (by decide), h3.ne (by decide), h4.ne (by decide), .same, h6.ne (by decide), h7.ne (by decide) (Below.refl _ _), h8.ne (by decide), h9.ne (by decide), h10.ne (by decide), h11.ne (by decide), h12.ne (by decide)⟩)
            · refine FreeStep.asked 2 true rfl (fun V hV => by show (match some (V 2) with | some (.bool b) => some b | _ => none) = some true; rw [hV]) (fun q V wq hr hI => by obtain ⟨hB, h0, h1, h2, h3, h4, h5, h6, h7, h8, h9, h10, h11, h12⟩ := hI; exact h2 (hr { on := 2, ground := .guard } (by simp) rfl)) ?_
              rintro q V wq hr hu ⟨hB, h0, h1, h2, h3, h4, h5, h6, h7, h8, h9, h10, h11, h12⟩ K hK
              exact op_slice_tail 9 (.tmp 51) 560 rfl s (h5 (hr { on := 5, ground := .data } (by simp) rfl)) Tryz.underlying9 HSL.out (hK _ _ ⟨hB, h0.ne (by decide), h1.ne (by decide), h2.ne (by decide), h3.ne (by decide), h4.ne (by decide), h5.ne (by decide), .same, h7.ne (by decide) (Below.refl _ _), h8.ne (by decide), h9.ne (by decide), h10.ne (by decide), h11.ne (by decide), h12.ne (by decide)⟩)
            · refine FreeStep.asked 2 true rfl (fun V hV => by show (match some (V 2) with | some (.bool b) => some b | _ => none) = some true; rw [hV]) (fun q V wq hr hI => by obtain ⟨hB, h0, h1, h2, h3, h4, h5, h6, h7, h8, h9, h10, h11, h12⟩ := hI; exact h2 (hr { on := 2, ground := .guard } (by simp) rfl)) ?_
              rintro q V wq hr hu ⟨hB, h0, h1, h2, h3, h4, h5, h6, h7, h8, h9, h10, h11, h12⟩ K hK
              refine op_call Tryz.func54 rfl rfl rfl [.string ⟨(s.drop 560).toArray⟩] (cons_eq (h6 (hr { on := 6, ground := .data } (by simp) rfl)) rfl) (HEL.out wq) ?_
              rintro e w' ⟨⟨ao, co, rfl, hE⟩, hb⟩
              exact ⟨_, rfl, hK _ _ ⟨hB.trans (hb.mono hB.size), h0.ne (by decide), h1.ne (by decide), h2.ne (by decide), h3.ne (by decide), h4.ne (by decide), h5.ne (by decide), h6.ne (by decide), .same hE, h8.ne (by decide), h9.ne (by decide), h10.ne (by decide), h11.ne (by decide), h12.ne (by decide)⟩⟩
            · refine FreeStep.asked 2 true rfl (fun V hV => by show (match some (V 2) with | some (.bool b) => some b | _ => none) = some true; rw [hV]) (fun q V wq hr hI => by obtain ⟨hB, h0, h1, h2, h3, h4, h5, h6, h7, h8, h9, h10, h11, h12⟩ := hI; exact h2 (hr { on := 2, ground := .guard } (by simp) rfl)) ?_
              rintro q V wq hr hu ⟨hB, h0, h1, h2, h3, h4, h5, h6, h7, h8, h9, h10, h11, h12⟩ K hK
              obtain ⟨ao, co, hv7, hE7⟩ := (h7 (hr { on := 7, ground := .data } (by simp) rfl))
              refine op_call Tryz.func53 rfl rfl rfl [.agg (nums .u8 M).toArray, .int .i64 i, .slice ao n co] (cons_eq (h3 (hr { on := 3, ground := .data } (by simp) rfl)) (cons_eq (h4 (hr { on := 4, ground := .data } (by simp) rfl)) (cons_eq hv7 rfl))) (HCM.out ao co wq hE7 (HK3.out.below hB)) ?_
              rintro e w' ⟨rfl, hb⟩
              exact ⟨_, rfl, hK _ _ ⟨hB.trans (hb.mono hB.size), h0.ne (by decide), h1.ne (by decide), h2.ne (by decide), h3.ne (by decide), h4.ne (by decide), h5.ne (by decide), h6.ne (by decide), h7.ne (by decide) hb, .same, h9.ne (by decide), h10.ne (by decide), h11.ne (by decide), h12.ne (by decide)⟩⟩
            · refine FreeStep.asked 2 true rfl (fun V hV => by show (match some (V 2) with | some (.bool b) => some b | _ => none) = some true; rw [hV]) (fun q V wq hr hI => by obtain ⟨hB, h0, h1, h2, h3, h4, h5, h6, h7, h8, h9, h10, h11, h12⟩ := hI; exact h2 (hr { on := 2, ground := .guard } (by simp) rfl)) ?_
              rintro q V wq hr hu ⟨hB, h0, h1, h2, h3, h4, h5, h6, h7, h8, h9, h10, h11, h12⟩ K hK
              exact op_field0 31 (.tmp 4) rfl gn rfl HFA.out (hK _ _ ⟨hB, h0.ne (by decide), h1.ne (by decide), h2.ne (by decide), h3.ne (by decide), h4.ne (by decide), h5.ne (by decide), h6.ne (by decide), h7.ne (by decide) (Below.refl _ _), h8.ne (by decide), .same, h10.ne (by decide), h11.ne (by decide), h12.ne (by decide)⟩)
            · refine FreeStep.asked 2 true rfl (fun V hV => by show (match some (V 2) with | some (.bool b) => some b | _ => none) = some true; rw [hV]) (fun q V wq hr hI => by obtain ⟨hB, h0, h1, h2, h3, h4, h5, h6, h7, h8, h9, h10, h11, h12⟩ := hI; exact h2 (hr { on := 2, ground := .guard } (by simp) rfl)) ?_
              rintro q V wq hr hu ⟨hB, h0, h1, h2, h3, h4, h5, h6, h7, h8, h9, h10, h11, h12⟩ K hK
              exact op_load_elem 29 (.tmp 55) rfl gn 0 r _ (h9 (hr { on := 9, ground := .data } (by simp) rfl)) (rangeAt_below HNR.out hB HGN.out) Tryz.underlying29 rfl HIR.out (hK _ _ ⟨hB, h0.ne (by decide), h1.ne (by decide), h2.ne (by decide), h3.ne (by decide), h4.ne (by decide), h5.ne (by decide), h6.ne (by decide), h7.ne (by decide) (Below.refl _ _), h8.ne (by decide), h9.ne (by decide), .same, h11.ne (by decide), h12.ne (by decide)⟩)
            · refine FreeStep.asked 2 true rfl (fun V hV => by show (match some (V 2) with | some (.bool b) => some b | _ => none) = some true; rw [hV]) (fun q V wq hr hI => by obtain ⟨hB, h0, h1, h2, h3, h4, h5, h6, h7, h8, h9, h10, h11, h12⟩ := hI; exact h2 (hr { on := 2, ground := .guard } (by simp) rfl)) ?_
              rintro q V wq hr hu ⟨hB, h0, h1, h2, h3, h4, h5, h6, h7, h8, h9, h10, h11, h12⟩ K hK
              exact op_eqlv 29 29 (.tmp 54) (.tmp 56) rfl (.agg (nums .u8 C).toArray) (.agg (nums .u8 r).toArray) VV (h8 (hr { on := 8, ground := .data } (by simp) rfl)) (h10 (hr { on := 10, ground := .data } (by simp) rfl)) HEG.out HEQ.out (hK _ _ ⟨hB, h0.ne (by decide), h1.ne (by decide), h2.ne (by decide), h3.ne (by decide), h4.ne (by decide), h5.ne (by decide), h6.ne (by decide), h7.ne (by decide) (Below.refl _ _), h8.ne (by decide), h9.ne (by decide), h10.ne (by decide), .same, h12.ne (by decide)⟩)
            · refine FreeStep.fresh rfl ?_
              rintro q V wq hr hu ⟨hB, h0, h1, h2, h3, h4, h5, h6, h7, h8, h9, h10, h11, h12⟩ K hK
              exact op_pick_yes (.tmp 48) (.tmp 57) (.const (.bool false)) rfl (h2 (hr { on := 2, ground := .data } (by simp) rfl)) (.bool VV) (h11 (hr { on := 11, ground := .data } (by simp) rfl)) (hK _ _ ⟨hB, h0.ne (by decide), h1.ne (by decide), h2.ne (by decide), h3.ne (by decide), h4.ne (by decide), h5.ne (by decide), h6.ne (by decide), h7.ne (by decide) (Below.refl _ _), h8.ne (by decide), h9.ne (by decide), h10.ne (by decide), h11.ne (by decide), .same⟩)
          rintro q V w4 hall ⟨hB, h0, h1, h2, h3, h4, h5, h6, h7, h8, h9, h10, h11, h12⟩
          have v0 := h0 (hall 0 (by decide))
          have v1 := h1 (hall 1 (by decide))
          have v2 := h2 (hall 2 (by decide))
          have v3 := h3 (hall 3 (by decide))
          have v4 := h4 (hall 4 (by decide))
          have v5 := h5 (hall 5 (by decide))
          have v6 := h6 (hall 6 (by decide))
          have v8 := h8 (hall 8 (by decide))
          have v9 := h9 (hall 9 (by decide))
          have v10 := h10 (hall 10 (by decide))
          have v11 := h11 (hall 11 (by decide))
          have v12 := h12 (hall 12 (by decide))
          obtain ⟨ao7, co7, v7, _⟩ := h7 (hall 7 (by decide))
          simp only [List.take_succ_cons, List.take_zero, List.drop_succ_cons, List.drop_zero, putAll, Nat.zero_add, Nat.reduceAdd, v0, v1, v2, v3, v4, v5, v6, v7, v8, v9, v10, v11, v12, Act.put, List.setIfInBounds_toArray, List.set_cons_zero, List.set_cons_succ]
          have HB4 := Lib.hid (HB3.out.trans (hB.mono HB3.out.size))
          clear h0 h1 h2 h3 h4 h5 h6 h7 h8 h9 h10 h11 h12 v0 v1 v2 v3 v4 v5 v6 v7 v8 v9 v10 v11 v12 hall hB
          go_wp2_with fail
          go_ret
          exact ⟨rfl, HB4.out⟩
        · have hl2 : ((s.length : Int) != 560 + 16 * (n : Int)) = true := by simp; omega
          go_wp2_with fail
          go_ret
          exact ⟨by rw [HNOT.out (fun h => hl h.2.2)]; rfl, HB1.out⟩
  · have HD := Shut.mk (decide_eq_false hv)
    rw [HWZ.out (by omega)] at HNOT
    clear HIS
    go_wp2_with fail
    refine (dev_valid h w1 false HD.out).mono ?_
    rintro e w2 ⟨rfl, rfl⟩
    go_wp2_with fail
    go_ret
    exact ⟨by rw [HNOT.out (by omega)]; rfl, HB1.out⟩
end Go.Proofs.YtpfhlhcnmeodbaaGreatDoor
namespace Go.Proofs.YtpfhlhcnmeodbaaGreatDoor
open Go.RowKit Go.BigFrame
set_option maxHeartbeats 4000000 in
set_option maxRecDepth 100000 in
theorem dev_check16 (a : AuthN) (ao : Option Addr) (N : List NodeN) (c : Nat) (w : World) (hn0 : -9223372036854775808 ≤ a.node) (hn : a.node ≤ 9223372036854775807) (hi0 : -9223372036854775808 ≤ a.seq) (hi : a.seq ≤ 9223372036854775807) (hh : IdOk a.hash) (hs : a.sig.length ≤ 1000000)
    (hN : ∀ x ∈ N, x.Ok) (_hl : N.length ≤ 140737488351232) (hat : NodesAt ao N w) (hk : KAt w) :
    Calls Tryz.prog 10 #[.agg (autV a), .slice ao N.length c] w fun r w' => r = .returned (.bool (checkN a N)) ∧ Below w.heap.size w w' := by
  have hx1 : Cells w.heap.size 45 (autV a) (w.alloc (.cells (autV a) 45)) := heap_alloc_new w _
  have HX1 := Lib.hid hx1
  have HB := Lib.hid (show Below w.heap.size w (w.alloc (.cells (autV a) 45)) from (Below.refl _ _).alloc (Nat.le_refl _) _)
  have HK := Lib.hid (hk.below HB.out)
  have HAT := Lib.hid (RAt.below hat HB.out)
  have HH := Lib.hid hh
  have HNN := Lib.hid hN
  have HSG := Lib.hid hs
  have HCK := Shut.mk (show checkN a N = if 0 ≤ a.node ∧ a.node < N.length ∧ 1 ≤ a.seq then verK (N.getD a.node.toNat ⟨[], 0⟩).root (N.getD a.node.toNat ⟨[], 0⟩).height (a.seq - 1) (wordB a.node a.seq a.hash) a.sig else false from rfl)
  have HG := Lib.hid (show ∀ x, N[a.node.toNat]? = some x → N.getD a.node.toNat ⟨[], 0⟩ = x from fun x hx => by rw [List.getD_eq_getElem?_getD, hx]; rfl)
  obtain ⟨n, hn2⟩ : ∃ n, a.node = n := ⟨_, rfl⟩
  obtain ⟨i, hi2⟩ : ∃ i, a.seq = i := ⟨_, rfl⟩
  obtain ⟨m, hm⟩ : ∃ m, N.length = m := ⟨_, rfl⟩
  have HM := Shut.mk hm
  rw [hn2] at hn hn0 HG HCK
  rw [hi2] at hi hi0 HCK
  rw [hm] at _hl HCK ⊢
  obtain ⟨c0, c1, c2, c3⟩ := aut_cells HH.out HX1.out
  rw [hn2] at c0
  rw [hi2] at c1
  clear hx1 hh hn2 hi2 hat hN hm hs hk
  go_enter Tryz.func10, Tryz.ntmps10
  go_upto_region 1 with (fail)
  obtain ⟨w1, hw1⟩ : ∃ x, x = w.alloc (.cells (autV a) 45) := ⟨_, rfl⟩
  rw [← hw1] at HX1 HB HAT HK c0 c1 c2 c3 ⊢
  clear hw1
  by_cases h1 : n < 0
  · have HF := Shut.mk (show checkN a N = false by rw [HCK.out, if_neg (by omega)])
    go_wp2_with fail
    go_ret
    exact ⟨by rw [HF.out]; rfl, HB.out⟩
  · by_cases h2 : n ≥ m
    · have HF := Shut.mk (show checkN a N = false by rw [HCK.out, if_neg (by omega)])
      go_wp2_with fail
      go_ret
      exact ⟨by rw [HF.out]; rfl, HB.out⟩
    · by_cases h3 : i ≤ 0
      · have HF := Shut.mk (show checkN a N = false by rw [HCK.out, if_neg (by omega)])
        go_wp2_with fail
        go_ret
        exact ⟨by rw [HF.out]; rfl, HB.out⟩
      · obtain ⟨k, rfl⟩ := Int.eq_ofNat_of_zero_le (show 0 ≤ n by omega)
        have hkm : k < m := by omega
        obtain ⟨x, hx⟩ : ∃ x, N[k]? = some x := ⟨_, List.getElem?_eq_getElem (by rw [HM.out]; exact hkm)⟩
        have HXO := Lib.hid (HNN.out x (List.mem_of_getElem? hx))
        have HF := Shut.mk (show checkN a N = verK x.root x.height (i - 1) (wordB k i a.hash) a.sig by
          rw [HCK.out, if_pos (by omega), HG.out x (by rw [Int.toNat_natCast]; exact hx)])
        obtain ⟨b, ob, rfl, hbl, hr⟩ := RAt.getM HAT.out hx
        have HIX := Lib.hid (index_node b ob m c k hkm)
        have HSN := Lib.hid (show (Tryz.prog.info? 31).map (·.size) = some (nodL x).length by rw [nodL_len HXO.out]; exact Tryz.sizeNo)
        have HSI := Lib.hid (show (Tryz.prog.info? 43).map (·.size) = some (nums .u8 a.hash).length by rw [nums_len, HH.out.1]; exact Tryz.sizeI)
        have hg := HX1.out.lt
        have HC0 := Lib.hid (fun (w' : World) (q : SS w1 w') => (q.1.cell (p := ⟨w.heap.size, 0, none⟩) hg).trans c0)
        have HC1 := Lib.hid (fun (w' : World) (q : SS w1 w') => (q.1.cell (p := ⟨w.heap.size, 1, none⟩) hg).trans c1)
        have HC2 := Lib.hid (fun (w' : World) (q : SS w1 w') => rangeAt_belowI c2 q.1 hg)
        have HC3 := Lib.hid (fun (w' : World) (q : SS w1 w') => (q.1.cell (p := ⟨w.heap.size, 34, none⟩) hg).trans c3)
        have HC4 := Lib.hid (fun (w' : World) (q : SS w1 w') => rangeAt_belowI hr q.1 hbl)
        have HI := Lib.hid (fun w' => dev_index16 i w' (by omega) hi)
        have HW := Lib.hid (fun w' => dev_word16 k i a.hash (by omega) hn (by omega) hi HH.out w')
        go_upto_region 3 with (fail)
        clear c0 c1 c2 c3 hg hx hr hbl HG HCK HAT
        refine wp_region_class_tail (SS w1) 17 (by kernel_rfl) (by kernel_rfl) (SS.start HK.out) ?_
        simp only [List.take_succ_cons, List.take_zero, List.drop_succ_cons, List.drop_zero]
        repeat (first
          | (go_big_quiet_want; refine quiet_load_cell 3 _ rfl ⟨w.heap.size, 0, none⟩ _ rfl HC0.out Tryz.isAgg3 ?_; go_big_quiet_on; simp only [Act.put, List.setIfInBounds_toArray, List.set_cons_zero, List.set_cons_succ])
          | (go_big_quiet_want; refine quiet_load_cell 3 _ rfl ⟨w.heap.size, 1, none⟩ _ rfl HC1.out Tryz.isAgg3 ?_; go_big_quiet_on; simp only [Act.put, List.setIfInBounds_toArray, List.set_cons_zero, List.set_cons_succ])
          | (go_big_quiet_want; refine quiet_load_cell 9 _ rfl ⟨w.heap.size, 34, none⟩ _ rfl HC3.out Tryz.isAgg9 ?_; go_big_quiet_on; simp only [Act.put, List.setIfInBounds_toArray, List.set_cons_zero, List.set_cons_succ])
          | (go_big_quiet_want; refine quiet_load_row 43 _ rfl w.heap.size 2 (nums .u8 a.hash) _ rfl HC2.out Tryz.underlying43 rfl HSI.out ?_; go_big_quiet_on; simp only [Act.put, List.setIfInBounds_toArray, List.set_cons_zero, List.set_cons_succ])
          | (go_big_quiet_want; refine quiet_load_row 31 _ rfl b (ob + k * 17) (nodL x) _ rfl HC4.out Tryz.underlying31 rfl HSN.out ?_; go_big_quiet_on; simp only [Act.put, List.setIfInBounds_toArray, List.set_cons_zero, List.set_cons_succ])
          | (go_big_quiet_want; refine quiet_indexAt 50 _ _ rfl _ _ _ rfl rfl HIX.out ?_; go_big_quiet_on; simp only [Act.put, List.setIfInBounds_toArray, List.set_cons_zero, List.set_cons_succ])
          | go_big_quiet_step ((intro hs'; first
              | (go_at_call 29; exact (HW.out _).mono fun e w' h => ⟨h.1, hs'.next h.2⟩)
              | (go_at_call 28; exact (HI.out _).mono fun e w' h => ⟨h.1, hs'.next h.2⟩)
              | rfl)))
        refine wpQuiet_nil ?_
        intro w2 hs2
        have HB2 := Lib.hid (HB.out.trans (hs2.1.mono HB.out.size))
        have HK2 := Lib.hid hs2.2
        clear hs2 HX1 HB HK HI HC0 HC1 HC2 HC3 HC4 HW
        go_wp2_with fail
        refine (dev_verify6 x.root x.height (i - 1) (wordB k i a.hash) a.sig w2 HXO.out.root.1 HXO.out.root.2 HXO.out.low HXO.out.high (by omega) (by omega) (Nat.le_trans (wordB_len hn hi HH.out) (by decide)) HSG.out HK2.out).mono ?_
        rintro e w3 ⟨rfl, hb⟩
        have HB3 := Lib.hid (HB2.out.trans (hb.mono HB2.out.size))
        clear hb HB2
        go_wp2_with fail
        go_ret
        exact ⟨by rw [HF.out]; rfl, HB3.out⟩
end Go.Proofs.YtpfhlhcnmeodbaaGreatDoor
namespace Go.Proofs.YtpfhlhcnmeodbaaGreatDoor
open Go.RowKit Go.ChangeShapes Go.WideShapes Go.Deep
structure CallG where
  app : Bool
  ao : Option Addr
  L : List EntN
  cap : Nat
  seq : Int
  till : Int
def callL (x : CallG) : List Value := [.bool x.app, .slice x.ao x.L.length x.cap, .int .i64 x.seq, .int .i64 x.till]
structure CallG.In (w : World) (x : CallG) : Prop where
  lie : EntsAt x.ao x.L w
  ins : ∀ e ∈ x.L, e.In
  long : x.L.length ≤ 140737488351232
  room : x.L.length ≤ x.cap
  nil : x.ao = none → x.cap = 0
  slow : -9223372036854775808 ≤ x.seq
  shigh : x.seq ≤ 9223372036854775807
  tlow : -9223372036854775808 ≤ x.till
  thigh : x.till ≤ 9223372036854775807
set_option maxRecDepth 100000 in
theorem open_callG {H : Type} {enc : TypeId × Value → H} {W : World} {n : Nat} {cs : List Value} {x : DataW H × List MemPlace}
    (h : DataW.trod enc Tryz.prog W 0 (fun _ => true) true n 39 cs = some x) (hwt : ∀ n ∈ DataW.weights Tryz.prog 39 x.1, n ≤ 140737488351232) :
    ∃ y : CallG, cs = callL y ∧ y.In W := by
  obtain ⟨xs, m, _, hx, hcl, hxl, hf⟩ := DataW.trod_struct Tryz.underlying39 h
  have hc4 : Tryz.prog.cellsOf 39 = 4 := by kernel_rfl
  have hci : Tryz.prog.cellsOf 3 = 1 := by kernel_rfl
  have hcb : Tryz.prog.cellsOf 4 = 1 := by kernel_rfl
  have hcs : Tryz.prog.cellsOf 35 = 1 := by kernel_rfl
  rw [hc4] at hcl
  match cs, hcl with
  | [v0, v1, v2, v3], _ =>
  match xs, hxl with
  | [x0, x1, x2, x3], _ =>
  have t0 : DataW.trod enc Tryz.prog W 0 (fun _ => true) true m 4 ([v0, v1, v2, v3].take (Tryz.prog.cellsOf 4)) = some x0 := hf 0 _ rfl
  have t1 : DataW.trod enc Tryz.prog W 0 (fun _ => true) true m 35 (([v0, v1, v2, v3].drop 1).take (Tryz.prog.cellsOf 35)) = some x1 := hf 1 _ rfl
  have t2 : DataW.trod enc Tryz.prog W 0 (fun _ => true) true m 3 (([v0, v1, v2, v3].drop 2).take (Tryz.prog.cellsOf 3)) = some x2 := hf 2 _ rfl
  have t3 : DataW.trod enc Tryz.prog W 0 (fun _ => true) true m 3 (([v0, v1, v2, v3].drop 3).take (Tryz.prog.cellsOf 3)) = some x3 := hf 3 _ rfl
  rw [hci] at t2 t3
  rw [hcb] at t0
  rw [hcs] at t1
  simp only [List.drop_succ_cons, List.drop_zero, List.take_succ_cons, List.take_zero] at t0 t1 t2 t3
  obtain ⟨k, e0, _⟩ := DataW.trod_bool Tryz.underlying4 t0
  obtain ⟨a, e2, _, w2⟩ := DataW.trod_int Tryz.underlying3 t2
  obtain ⟨b, e3, _, w3⟩ := DataW.trod_int Tryz.underlying3 t3
  have hx1 : x.1 = .agg [x0.1, x1.1, x2.1, x3.1] := congrArg Prod.fst hx
  rw [hx1] at hwt
  simp only [DataW.weights, Tryz.underlying39] at hwt
  obtain ⟨ao, L, cap, e1, h1, h2, h3, h4, h5⟩ := open_row_nil 35 54 73 entL EntN.In noE Tryz.underlying35 (by kernel_rfl) (by decide) (by rw [show Tryz.prog.bytesOf 54 = 168 by kernel_rfl]; decide) (fun y hy => entL_len hy.ok) (fun _ _ _ h hw => open_ent_cells h hw) t1 (fun q hq => hwt q (by
    simp only [List.map_cons, List.map_nil, DataW.weightsEach, List.mem_append]
    exact .inr (.inl hq)))
  simp only [List.cons.injEq, and_true] at e0 e1 e2 e3
  simp only [Lit.wf, Bool.and_eq_true, decide_eq_true_eq] at w2 w3
  exact ⟨⟨k, ao, L, cap, a, b⟩, by rw [e0, e1, e2, e3]; rfl, h1, h2, h3, h4, h5, w2.1, w2.2, w3.1, w3.2⟩
set_option maxRecDepth 100000 in
theorem open_callGs {H : Type} {enc : TypeId × Value → H} {W : World} {v : Value} {d : DataW H} {p : List MemPlace} {base : Nat} (hv : Value.okWide Tryz.prog W .any base 22 v)
    (h : DataW.Trod enc Tryz.prog W 0 (fun _ => true) true 22 v d p) (hwt : ∀ n ∈ DataW.weights Tryz.prog 22 d, n ≤ 140737488351232) :
    ∃ (ao : Option Addr) (L : List CallG) (cap : Nat), v = .slice ao L.length cap ∧ RAt 4 ao (L.map callL) W ∧ (∀ x ∈ L, x.In W) ∧ L.length ≤ 140737488351232 :=
  open_row 22 39 4 callL (CallG.In W) ⟨false, none, [], 0, 0, 0⟩ Tryz.underlying22 (by kernel_rfl) (by decide) (by rw [show Tryz.prog.bytesOf 39 = 48 by kernel_rfl]; decide) (fun _ _ => rfl) (fun _ _ _ h hw => open_callG h hw) hv h hwt
end Go.Proofs.YtpfhlhcnmeodbaaGreatDoor
namespace Go.Proofs.YtpfhlhcnmeodbaaGreatDoor
open Go.RowKit Go.BigFrame
theorem rat_of_cells {K : Nat} {g : Nat} {t : TypeId} {D : List (List Value)} {w : World} (h : Cells g t D.flatten.toArray w) (hD : Wide K D) : RAt K (some ⟨g, 0, none⟩) D w := by
  refine .inr ⟨g, 0, rfl, h.lt, fun i c hi j v hj => ?_⟩
  have hiD := (List.getElem?_eq_some_iff.1 hi).1
  have hc : c.length = K := hD c (List.mem_of_getElem? hi)
  have hjc := (List.getElem?_eq_some_iff.1 hj).1
  rw [h.at, List.getElem?_toArray, Nat.zero_add, Nat.mul_comm i K, flat_get hD hiD (by omega), List.getD_eq_getElem?_getD, hi]
  exact hj
def zeroNode : NodeN := ⟨List.replicate 16 0, 0⟩
theorem zeroNode_ok : zeroNode.Ok := ⟨⟨by simp [zeroNode], by intro y hy; simp [zeroNode] at hy; omega⟩, by simp [zeroNode], by simp [zeroNode]⟩
def nodes5 (d : Nat) (x : NodeN) : List NodeN := (List.replicate 5 zeroNode).set d x
theorem nodes5_ok {d : Nat} {x : NodeN} (hx : x.Ok) : ∀ y ∈ nodes5 d x, y.Ok := fun y hy => by
  rcases List.mem_or_eq_of_mem_set hy with h | h
  · rw [List.eq_of_mem_replicate h]; exact zeroNode_ok
  · rw [h]; exact hx
theorem nodes5_get {d : Nat} {x : NodeN} (hd : d < 5) : (nodes5 d x).getD d ⟨[], 0⟩ = x := by
  rw [nodes5, List.getD_eq_getElem?_getD, List.getElem?_set_self (by simpa using hd)]
  rfl
def LogsSt (B : Nat) (w0 : World) (vd : Value) (g : Nat) (nd : Int) (seed : List UInt8) (h : Nat) (gn : Nat) (N5 : List NodeN) (L : List EntN) (w : World) : Prop :=
  ∃ N O R, LogIs N O vd nd seed h L w ∧ RLog R g nd seed h L w ∧ (∀ x, O x → ¬ R x) ∧ B ≤ N ∧ (∀ x, R x → N ≤ x) ∧ Below B w0 w ∧ ¬ O gn ∧ ¬ R gn ∧ NodesAt (some ⟨gn, 0, none⟩) N5 w
theorem LogsSt.below {B : Nat} {w0 : World} {vd : Value} {g : Nat} {nd : Int} {seed : List UInt8} {h : Nat} {gn : Nat} {N5 : List NodeN} {L : List EntN} {w w' : World} (p : LogsSt B w0 vd g nd seed h gn N5 L w) (hB : B ≤ w0.heap.size) (k : Below w.heap.size w w') : LogsSt B w0 vd g nd seed h gn N5 L w' := by
  obtain ⟨N, O, R, hl, hr, ha, hN, hR, hb, h1, h2, h3⟩ := p
  exact ⟨N, O, R, hl.below k, hr.below k, ha, hN, hR, hb.trans (k.mono (Nat.le_trans hB hb.size)), h1, h2, RAt.below h3 k⟩
theorem LogsSt.world {B : Nat} {w0 : World} {vd : Value} {g : Nat} {nd : Int} {seed : List UInt8} {h : Nat} {gn : Nat} {N5 : List NodeN} {L : List EntN} {w : World} (p : LogsSt B w0 vd g nd seed h gn N5 L w) : Below B w0 w := by
  obtain ⟨N, O, R, _, _, _, _, _, hb, _⟩ := p
  exact hb
def AllG (L : List EntN) : Prop := ∀ x ∈ L, GoodE x ∧ x.Len ∧ x.seq < 9223372036854775808
theorem checkN_auth {nd : Nat} {seed : List UInt8} {h k : Nat} {L : List EntN} (hd : nd < 5) (h1 : 1 ≤ h) (h8 : h ≤ 8) (hk : 1 ≤ k) (hk2 : k ≤ 2 ^ h) : checkN (authL nd seed h L k) (nodes5 nd ⟨rootK seed h, h⟩) = true := by
  have hlen : (nodes5 nd ⟨rootK seed h, (h : Int)⟩).length = 5 := by simp [nodes5]
  rw [checkN, if_pos ⟨by simp [authL], by simp only [authL, hlen]; omega, by simp only [authL]; omega⟩]
  simp only [authL, Int.toNat_natCast]
  rw [nodes5_get hd, show ((k : Int) - 1) = ((k - 1 : Nat) : Int) by omega]
  exact ver_sign seed h1 h8 (by omega) _
def JoinM (wb : World) (L M : List EntN) : Nat → Value → World → Prop
  | 0, _, w' => Below wb.heap.size wb w'
  | 1, v, w' => Below wb.heap.size wb w' ∧ OwnE15 wb.heap.size v [] w'
  | 2, v, w' => Below wb.heap.size wb w' ∧ OwnE15 wb.heap.size v L w'
  | _, v, w' => Below wb.heap.size wb w' ∧ OwnE15 wb.heap.size v (L ++ M) w'
section
variable {o : Oper} {a : Act} {w : World} {K : Act → World → Prop} {Q : Exit → Act → World → Prop}
theorem op_empty_ents (ho : o.op = .buildSlice 35 0 #[]) (h : K (a.put o.dst (.slice (some ⟨w.heap.size, 0, none⟩) 0 0)) (w.alloc (.cells #[] 54))) : OpWp Tryz.prog o a w K Q := by
  have hr : (Instr.buildSlice 35 0 #[]).run Tryz.prog w = .ok (.slice (some ⟨w.heap.size, 0, none⟩) 0 0) (w.alloc (.cells #[] 54)) := by go_simp
  refine ⟨?_⟩
  unfold Oper.wp execOp
  simp only [ho, Sem.run_bind, Array.map_empty, hr, Result.andThen_ok]
  exact h
theorem op_push_ents (hg : o.guard = none) (s z : Operand) (ho : o.op = .call { callee := .builtin .append, args := #[s, z], argTypes := #[35, 35] }) (B : Nat) (v : Value) (L M : List EntN) (hM : ∀ x ∈ M, x.Ok) (ad : Option Addr) (n c : Nat) (hn : n = M.length)
    (hs : a.eval s = v) (hown : OwnE15 B v L w) (hz : a.eval z = .slice ad n c) (hsrc : EntsAt ad M w) (hnil : ad = none → c = 0) (h63 : L.length + M.length ≤ 1000000) (hB : B ≤ w.heap.size)
    (h : ∀ v' w', OwnE15 B v' (L ++ M) w' → w.grownBy w' v.ownBlock → K (a.put o.dst v') w') : OpWp Tryz.prog o a w K Q := by
  obtain ⟨bytes, hby, hinfo⟩ := Tryz.infoE73
  refine op_of_list (ops := #[]) hg (wpList_append_rowsv hg s z 35 54 ho B 73 bytes (.agg (entV noE)) (entV_size noE_ok) (by decide) hby Tryz.underlying35 hinfo v (L.map entL) (M.map entL) (wide_map fun x hx => entL_len (hM x hx)) flat_one ad n c (by rw [List.length_map]; exact hn) hs hown.1 hz hsrc hnil (by rw [List.length_map, List.length_map]; exact h63) hB
    (fun v' w' h1 h2 h3 => ⟨rfl, h v' w' ⟨?_, ?_⟩ h2.out⟩))
  · rw [List.map_append]
    exact h1.out
  · intro x hx
    rcases List.mem_append.1 hx with hx | hx
    · exact hown.2 x hx
    · exact hM x hx
end
theorem RAt.only16 {P : Nat → Prop} {K b o : Nat} {C : List (List Value)} {w w' : World} (h : RAt K (some ⟨b, o, Option.none⟩) C w) (k : Only P w w') (hP : ¬ P b) : RAt K (some ⟨b, o, Option.none⟩) C w' := by
  rcases h with h | ⟨b', o', h1, h2, h3⟩
  · exact .inl h
  · cases h1
    exact .inr ⟨b, o, rfl, Nat.lt_of_lt_of_le h2 k.size, fun i c hc j v hv => (World.cell?_of_block (w := w) (a := ⟨b, o + i * K + j, Option.none⟩) (k.block b h2 hP)).trans (h3 i c hc j v hv)⟩
def wantE (h : Nat) (L M : List EntN) (j : Nat) : Nat := if ∀ e ∈ M.take j, GoodE e then (if L.length + M.length ≤ 2 ^ h then 0 else 8) else 1
theorem wantE_all (h : Nat) (L M : List EntN) (j : Nat) (hj : M.length ≤ j) : wantE h L M j = appE h L M := by rw [wantE, List.take_of_length_le hj, appE]
theorem wantE_yes {h : Nat} {L M : List EntN} {j : Nat} {y : EntN} (hy : M[j]? = some y) (hg : GoodE y) : wantE h L M (j + 1) = wantE h L M j := by
  have e : (∀ e ∈ M.take (j + 1), GoodE e) ↔ (∀ e ∈ M.take j, GoodE e) := by
    rw [List.take_add_one, hy]
    constructor
    · exact fun q e he => q e (List.mem_append_left _ he)
    · intro q e he
      rcases List.mem_append.1 he with he | he
      · exact q e he
      · obtain rfl : e = y := by simpa using he
        exact hg
  unfold wantE
  by_cases hc : ∀ e ∈ M.take j, GoodE e
  · rw [if_pos hc, if_pos (e.2 hc)]
  · rw [if_neg hc, if_neg (fun q => hc (e.1 q))]
theorem wantE_no {h : Nat} {L M : List EntN} {j : Nat} {y : EntN} (hy : M[j]? = some y) (hg : ¬ GoodE y) : wantE h L M (j + 1) = 1 := by
  rw [wantE, if_neg]
  intro q
  refine hg (q y ?_)
  rw [List.take_add_one, hy]
  simp
theorem appE_zero {h : Nat} {L M : List EntN} (e : appE h L M = 0) : (∀ x ∈ M, GoodE x) ∧ L.length + M.length ≤ 2 ^ h := by
  unfold appE at e
  by_cases hc : ∀ x ∈ M, GoodE x
  · rw [if_pos hc] at e
    by_cases hl : L.length + M.length ≤ 2 ^ h
    · exact ⟨hc, hl⟩
    · rw [if_neg hl] at e
      cases e
  · rw [if_neg hc] at e
    cases e
theorem RLog.more {R : Nat → Prop} {g : Nat} {nd : Int} {seed : List UInt8} {h B : Nat} {la : Option Addr} {lc : Nat} {v' v : Value} {L L' : List EntN} {w w' : World} (_l : RLog R g nd seed h L w) (_hR : R = refLogO g la v) (hc : Cells g 37 #[.int .i64 nd, .string ⟨seed.toArray⟩, .slice la ((2 ^ h : Nat)) lc, v'] w') (he : EAt la (leavesN seed (2 ^ h)) w') (ho : OwnE15 B v' L' w') : RLog (refLogO g la v') g nd seed h L' w' :=
  ⟨la, lc, v', rfl, hc, he, ⟨⟨ho.1.1, ho.1.2.imp id (fun ⟨g, c, u, h1, _, h3⟩ => ⟨g, c, u, h1, Nat.zero_le _, h3⟩)⟩, ho.2⟩⟩
end Go.Proofs.YtpfhlhcnmeodbaaGreatDoor
namespace Go.Proofs.YtpfhlhcnmeodbaaGreatDoor
open Go.RowKit Go.BigFrame
theorem quiet_un {P : Program} {o : Oper} {a : Act} {C : World → Prop} {K : Act → Prop} (op : UnOp) (t : TypeId) (x : Operand) (ho : o.op = .unOp op t x) (vx r : Value) (hx : a.eval x = vx)
    (hr : ∀ w, (Op.unary op vx).run P w = .ok r w) (hk : K (a.put o.dst r)) : o.quiet P a C K := by
  refine ⟨_, fun w hw => ?_, hk⟩
  unfold Oper.quietAt execOp
  simp only [ho, hx, Sem.run_bind, Sem.run_pure, hr, Result.andThen_ok]
  exact ⟨rfl, rfl⟩
end Go.Proofs.YtpfhlhcnmeodbaaGreatDoor
