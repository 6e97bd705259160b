/-
  Joined: The document's Verify.; Rows of nodes.; An element's address, in a region whose order is open.; The document's Check of layer 16.; The developers' elems.; The developers' Verify.; The developers' Check of layer 16.
-/
import Derived.Test.YtpfhlhcnmeodbaaDoorK07
import Derived.Test.YtpfhlhcnmeodbaaDoorK08
import Derived.Test.YtpfhlhcnmeodbaaDoorK09
import Derived.Test.YtpfhlhcnmeodbaaDoorK10
namespace Go.Proofs.YtpfhlhcnmeodbaaDoor
open Go.RowKit Go.BigFrame
set_option maxHeartbeats 2000000 in
set_option maxRecDepth 100000 in
theorem ref_verify6 (r : List Nat) (h i : Int) (t s : List UInt8) (w : World) (hr : r.length = 16) (lr : ∀ y ∈ r, y < 256) (h0 : -9223372036854775808 ≤ h) (h1 : h ≤ 9223372036854775807) (i0 : -9223372036854775808 ≤ i) (i1 : i ≤ 9223372036854775807)
    (ht : t.length ≤ 1000000) (_hs : s.length ≤ 1000000) :
    Calls Tryd.prog 47 #[.agg (nodeV r h), .int .i64 i, .string ⟨t.toArray⟩, .string ⟨s.toArray⟩] w fun e w' => e = .returned (.bool (verK r h i t s)) ∧ Below w.heap.size w w' := by
  have HR := Lib.hid hr
  have LR := Lib.hid lr
  have HNOT := Shut.mk (fun hb => verK_not (root := r) (h := h) (i := i) (text := t) (sig := s) hb)
  have HIS := Shut.mk (fun hb => verK_is (root := r) (h := h) (i := i) (text := t) (sig := s) hb)
  have hwle := wideN_le h
  have hwz := wideN_zero (h := h)
  have HWI := Lib.hid (fun w => ref_wide h w)
  obtain ⟨W, hW⟩ : ∃ W, wideN h = W := ⟨_, rfl⟩
  obtain ⟨V, hV⟩ : ∃ V, verK r h i t s = V := ⟨_, rfl⟩
  rw [hW] at HNOT HIS HWI hwle hwz
  rw [hV] at HNOT HIS ⊢
  clear hr lr hW hV
  go_enter Tryd.func47, Tryd.ntmps47
  go_upto_region 1 with (fail)
  obtain ⟨w1, hw1⟩ : ∃ x', x' = w.alloc (.cells (nodeV r h) 63) := ⟨_, rfl⟩
  rw [← hw1]
  have hb1 : Below w.heap.size w w1 := by rw [hw1]; exact (Below.refl _ _).alloc (Nat.le_refl _) _
  have hn1 : Cells w.heap.size 63 (nodeV r h) w1 := by rw [hw1]; exact heap_alloc_new w _
  have HN1 := Lib.hid hn1
  have HB1 := Lib.hid hb1
  have hc1 := node_height HR.out hn1
  obtain ⟨gn, hgn⟩ : ∃ g, g = w.heap.size := ⟨_, rfl⟩
  rw [← hgn] at HN1 hc1 ⊢
  clear hb1 hn1 hw1 hgn
  by_cases hi : i < 0
  · go_wp2_with fail
    go_ret
    exact ⟨by rw [HNOT.out (by omega)]; rfl, HB1.out⟩
  · go_wp2_with fail
    refine (HWI.out w1).mono ?_
    rintro e w2 ⟨rfl, rfl⟩
    by_cases hiw : (W : Int) ≤ i
    · go_wp2_with fail
      go_ret
      exact ⟨by rw [HNOT.out (by omega)]; rfl, HB1.out⟩
    · have hok : ¬ (h < 1 ∨ 8 < h) := fun hb => by have := hwz hb; omega
      obtain ⟨n, rfl⟩ : ∃ n : Nat, h = n := ⟨h.toNat, by omega⟩
      have hn8 : n ≤ 8 := by omega
      clear hwz hok
      rw [Int.toNat_natCast] at HNOT HIS
      by_cases hl : s.length = 560 + 16 * n
      · have hl2 : ((s.length : Int) != 560 + 16 * (n : Int)) = false := by simp; omega
        have HSL := Lib.hid (show 560 ≤ s.length by omega)
        have HFA := Lib.hid (show ∀ w, (Instr.fieldAt 63 (.pointer (some ⟨gn, 0, none⟩)) 0).run Tryd.prog w = .ok (.pointer (some ⟨gn, 0, none⟩)) w from fun w => by go_simp)
        have HNR := Lib.hid (node_root HN1.out)
        have HGN := Lib.hid (show gn < w2.heap.size from HN1.out.lt)
        have HIR := Lib.hid (show (Tryd.prog.info? 61).map (·.size) = some r.length by rw [HR.out]; exact Tryd.infoE)
        have HDG := Lib.hid (fun w => ref_digest6 r i t w HR.out LR.out i1 ht)
        have hd1 := digK_len r i t
        have hd2 := digK_lt r i t
        obtain ⟨D, hD⟩ : ∃ D, digK r i t = D := ⟨_, rfl⟩
        rw [hD] at HDG hd1 hd2 HIS
        have HMT := Lib.hid (fun w => ref_meet (s.take 560) i D w (by rw [List.length_take]; omega) i0 i1 hd1 hd2)
        rw [meetN_take] at HMT
        have hm1 := keyN_len (rowE (metF s i D) 35) i
        have hm2 := keyN_lt (rowE (metF s i D) 35) i
        rw [show keyN (rowE (metF s i D) 35) i = meetN s i D from rfl] at hm1 hm2
        obtain ⟨M, hM⟩ : ∃ M, meetN s i D = M := ⟨_, rfl⟩
        rw [hM] at HMT hm1 hm2 HIS
        have HIM := Lib.hid (show (Tryd.prog.info? 61).map (·.size) = some M.length by rw [hm1]; exact Tryd.infoE)
        have HLM := Lib.hid (show (List.replicate 16 0).length = M.length by rw [hm1]; rfl)
        have HM1 := Lib.hid hm1
        have HM2 := Lib.hid hm2
        clear hD hM hd1 hd2 hm1 hm2
        go_upto_region 3 with (fail)
        have HAL := Lib.hid (show ∀ w : World, (Instr.alloc 61 true (.tuple #[])).run Tryd.prog w = .ok (.pointer (some ⟨w.heap.size, 0, none⟩)) (w.alloc (.cells (nums .u8 (List.replicate 16 0)).toArray 61)) from fun w => by kernel_rfl)
        refine wp_region_free 14 (fun q V w' => Below w2.heap.size w2 w' ∧ Val q V 0 (.string ⟨s.toArray⟩) ∧ Val q V 1 (.string ⟨(s.take 560).toArray⟩) ∧ Val q V 2 (.int .i64 i) ∧ Val q V 3 (.pointer (some ⟨gn, 0, none⟩)) ∧ Val q V 4 (.agg (nums .u8 r).toArray) ∧ Val q V 5 (.int .i64 i) ∧ Val q V 6 (.string ⟨t.toArray⟩) ∧ Val q V 7 (.agg (nums .u8 D).toArray) ∧ Val q V 8 (.tuple #[.agg (nums .u8 M).toArray, .bool true]) ∧ Val q V 9 (.tuple #[.agg (nums .u8 M).toArray, .bool true]) ∧ Val q V 10 (.agg (nums .u8 M).toArray) ∧ Val q V 11 (.bool true) ∧ Put q V w2.heap.size 12 13 61 .u8 (List.replicate 16 0) M w' ∧ Late q 12 13) (fun _ => undef) (by kernel_rfl) (by kernel_rfl) (by kernel_rfl) (by simp only [List.take_succ_cons, List.take_zero, putAll, Act.put, List.setIfInBounds_toArray, List.set_cons_zero, List.set_cons_succ]) ⟨(Below.refl _ _).drew, Val.none, Val.none, Val.none, Val.none, Val.none, Val.none, Val.none, Val.none, Val.none, Val.none, Val.none, Val.none, Put.none, Late.none⟩ ?_ ?_
        · simp only [List.take_succ_cons, List.take_zero, putAll, Nat.zero_add, Nat.reduceAdd, Act.put, List.setIfInBounds_toArray, List.set_cons_zero, List.set_cons_succ]
          refine FreeSteps.cons ?_ (FreeSteps.cons ?_ (FreeSteps.cons ?_ (FreeSteps.cons ?_ (FreeSteps.cons ?_ (FreeSteps.cons ?_ (FreeSteps.cons ?_ (FreeSteps.cons ?_ (FreeSteps.cons ?_ (FreeSteps.cons ?_ (FreeSteps.cons ?_ (FreeSteps.cons ?_ (FreeSteps.cons ?_ (FreeSteps.cons ?_ (FreeSteps.nil))))))))))))))
          all_goals (refine FreeStep.fresh rfl ?_; rintro q V wq hr hu ⟨hB, h0, h1, h2, h3, h4, h5, h6, h7, h8, h9, h10, h11, hp, hl⟩ K hK)
          · exact op_move (.tmp 3) rfl (.string ⟨s.toArray⟩) rfl (hK _ _ ⟨hB, .same, h1.ne (by decide), h2.ne (by decide), h3.ne (by decide), h4.ne (by decide), h5.ne (by decide), h6.ne (by decide), h7.ne (by decide), h8.ne (by decide), h9.ne (by decide), h10.ne (by decide), h11.ne (by decide), hp.ne (by decide) (by decide) (Below.refl _ _), hl.ne (by decide)⟩)
          · exact op_slice_head 9 (.tmp 34) 560 rfl s (h0 (hr { on := 0, ground := .data } (by simp) rfl)) Tryd.underlying9 HSL.out (hK _ _ ⟨hB, h0.ne (by decide), .same, h2.ne (by decide), h3.ne (by decide), h4.ne (by decide), h5.ne (by decide), h6.ne (by decide), h7.ne (by decide), h8.ne (by decide), h9.ne (by decide), h10.ne (by decide), h11.ne (by decide), hp.ne (by decide) (by decide) (Below.refl _ _), hl.ne (by decide)⟩)
          · exact op_move (.tmp 1) rfl (.int .i64 i) rfl (hK _ _ ⟨hB, h0.ne (by decide), h1.ne (by decide), .same, h3.ne (by decide), h4.ne (by decide), h5.ne (by decide), h6.ne (by decide), h7.ne (by decide), h8.ne (by decide), h9.ne (by decide), h10.ne (by decide), h11.ne (by decide), hp.ne (by decide) (by decide) (Below.refl _ _), hl.ne (by decide)⟩)
          · exact op_field0 63 (.tmp 4) rfl gn rfl HFA.out (hK _ _ ⟨hB, h0.ne (by decide), h1.ne (by decide), h2.ne (by decide), .same, h4.ne (by decide), h5.ne (by decide), h6.ne (by decide), h7.ne (by decide), h8.ne (by decide), h9.ne (by decide), h10.ne (by decide), h11.ne (by decide), hp.ne (by decide) (by decide) (Below.refl _ _), hl.ne (by decide)⟩)
          · exact op_load_elem 61 (.tmp 37) rfl gn 0 r _ (h3 (hr { on := 3, ground := .data } (by simp) rfl)) (rangeAt_below HNR.out hB HGN.out) Tryd.underlying61 rfl HIR.out (hK _ _ ⟨hB, h0.ne (by decide), h1.ne (by decide), h2.ne (by decide), h3.ne (by decide), .same, h5.ne (by decide), h6.ne (by decide), h7.ne (by decide), h8.ne (by decide), h9.ne (by decide), h10.ne (by decide), h11.ne (by decide), hp.ne (by decide) (by decide) (Below.refl _ _), hl.ne (by decide)⟩)
          · exact op_move (.tmp 1) rfl (.int .i64 i) rfl (hK _ _ ⟨hB, h0.ne (by decide), h1.ne (by decide), h2.ne (by decide), h3.ne (by decide), h4.ne (by decide), .same, h6.ne (by decide), h7.ne (by decide), h8.ne (by decide), h9.ne (by decide), h10.ne (by decide), h11.ne (by decide), hp.ne (by decide) (by decide) (Below.refl _ _), hl.ne (by decide)⟩)
          · exact op_move (.tmp 2) rfl (.string ⟨t.toArray⟩) rfl (hK _ _ ⟨hB, h0.ne (by decide), h1.ne (by decide), h2.ne (by decide), h3.ne (by decide), h4.ne (by decide), h5.ne (by decide), .same, h7.ne (by decide), h8.ne (by decide), h9.ne (by decide), h10.ne (by decide), h11.ne (by decide), hp.ne (by decide) (by decide) (Below.refl _ _), hl.ne (by decide)⟩)
          · refine op_call Tryd.func81 rfl rfl rfl [.agg (nums .u8 r).toArray, .int .i64 i, .string ⟨t.toArray⟩] (cons_eq (h4 (hr { on := 4, ground := .data } (by simp) rfl)) (cons_eq (h5 (hr { on := 5, ground := .data } (by simp) rfl)) (cons_eq (h6 (hr { on := 6, ground := .data } (by simp) rfl)) rfl))) (HDG.out wq) ?_
            rintro e w' ⟨rfl, hb⟩
            exact ⟨_, rfl, hK _ _ ⟨hB.trans (hb.mono hB.size), h0.ne (by decide), h1.ne (by decide), h2.ne (by decide), h3.ne (by decide), h4.ne (by decide), h5.ne (by decide), h6.ne (by decide), .same, h8.ne (by decide), h9.ne (by decide), h10.ne (by decide), h11.ne (by decide), hp.ne (by decide) (by decide) hb, hl.ne (by decide)⟩⟩
          · refine op_call Tryd.func80 rfl rfl rfl [.string ⟨(s.take 560).toArray⟩, .int .i64 i, .agg (nums .u8 D).toArray] (cons_eq (h1 (hr { on := 1, ground := .data } (by simp) rfl)) (cons_eq (h2 (hr { on := 2, ground := .data } (by simp) rfl)) (cons_eq (h7 (hr { on := 7, ground := .data } (by simp) rfl)) rfl))) (HMT.out wq) ?_
            rintro e w' ⟨rfl, hb⟩
            exact ⟨_, rfl, hK _ _ ⟨hB.trans (hb.mono hB.size), h0.ne (by decide), h1.ne (by decide), h2.ne (by decide), h3.ne (by decide), h4.ne (by decide), h5.ne (by decide), h6.ne (by decide), h7.ne (by decide), .same, h9.ne (by decide), h10.ne (by decide), h11.ne (by decide), hp.ne (by decide) (by decide) hb, hl.ne (by decide)⟩⟩
          · exact op_move (.tmp 42) rfl _ (h8 (hr { on := 8, ground := .data } (by simp) rfl)) (hK _ _ ⟨hB, h0.ne (by decide), h1.ne (by decide), h2.ne (by decide), h3.ne (by decide), h4.ne (by decide), h5.ne (by decide), h6.ne (by decide), h7.ne (by decide), h8.ne (by decide), .same, h10.ne (by decide), h11.ne (by decide), hp.ne (by decide) (by decide) (Below.refl _ _), hl.ne (by decide)⟩)
          · exact op_extract (.tmp 33) 0 rfl _ _ (h9 (hr { on := 9, ground := .data } (by simp) rfl)) rfl (hK _ _ ⟨hB, h0.ne (by decide), h1.ne (by decide), h2.ne (by decide), h3.ne (by decide), h4.ne (by decide), h5.ne (by decide), h6.ne (by decide), h7.ne (by decide), h8.ne (by decide), h9.ne (by decide), .same, h11.ne (by decide), hp.ne (by decide) (by decide) (Below.refl _ _), hl.ne (by decide)⟩)
          · exact op_extract (.tmp 33) 1 rfl _ _ (h9 (hr { on := 9, ground := .data } (by simp) rfl)) rfl (hK _ _ ⟨hB, h0.ne (by decide), h1.ne (by decide), h2.ne (by decide), h3.ne (by decide), h4.ne (by decide), h5.ne (by decide), h6.ne (by decide), h7.ne (by decide), h8.ne (by decide), h9.ne (by decide), h10.ne (by decide), .same, hp.ne (by decide) (by decide) (Below.refl _ _), hl.ne (by decide)⟩)
          · have hb : Below wq.heap.size wq (wq.alloc (.cells (nums .u8 (List.replicate 16 0)).toArray 61)) := (Below.refl _ _).alloc (Nat.le_refl _) _
            exact op_alloc 61 rfl _ HAL.out (hK _ _ ⟨hB.trans (hb.mono hB.size), h0.ne (by decide), h1.ne (by decide), h2.ne (by decide), h3.ne (by decide), h4.ne (by decide), h5.ne (by decide), h6.ne (by decide), h7.ne (by decide), h8.ne (by decide), h9.ne (by decide), h10.ne (by decide), h11.ne (by decide), .made hB.size (hl.not hu) (by decide), hl.ne (by decide)⟩)
          · have h12 : q 12 = true := hr { on := 12, ground := .data } (by simp) rfl
            obtain ⟨g, hg0, hg1, hg2⟩ := hp h12
            rw [if_neg (by rw [hu]; decide)] at hg2
            refine op_store_nums 61 (.tmp 9) (.tmp 43) rfl g .u8 _ M 61 hg0 (h10 (hr { on := 10, ground := .data } (by simp) rfl)) hg2 HIM.out HLM.out ?_
            intro w' hx hb
            exact hK _ _ ⟨But.toBelow hB hb hg1 hB.size, h0.ne (by decide), h1.ne (by decide), h2.ne (by decide), h3.ne (by decide), h4.ne (by decide), h5.ne (by decide), h6.ne (by decide), h7.ne (by decide), h8.ne (by decide), h9.ne (by decide), h10.ne (by decide), h11.ne (by decide), .stored hg0 hg1 (by decide) hx, .same h12⟩
        rintro q V w3 hall ⟨hB, h0, h1, h2, h3, h4, h5, h6, h7, h8, h9, h10, h11, hp, hl⟩
        have v0 := h0 (hall 0 (by decide))
        have v1 := h1 (hall 1 (by decide))
        have v2 := h2 (hall 2 (by decide))
        have v3 := h3 (hall 3 (by decide))
        have v4 := h4 (hall 4 (by decide))
        have v5 := h5 (hall 5 (by decide))
        have v6 := h6 (hall 6 (by decide))
        have v7 := h7 (hall 7 (by decide))
        have v8 := h8 (hall 8 (by decide))
        have v9 := h9 (hall 9 (by decide))
        have v10 := h10 (hall 10 (by decide))
        have v11 := h11 (hall 11 (by decide))
        obtain ⟨gy, v12, hgy, hy⟩ := hp (hall 12 (by decide))
        rw [if_pos (hall 13 (by decide))] at hy
        simp only [List.take_succ_cons, List.take_zero, List.drop_succ_cons, List.drop_zero, putAll, Nat.zero_add, Nat.reduceAdd, v0, v1, v2, v3, v4, v5, v6, v7, v8, v9, v10, v11, v12, Act.put, List.setIfInBounds_toArray, List.set_cons_zero, List.set_cons_succ]
        clear h0 h1 h2 h3 h4 h5 h6 h7 h8 h9 h10 h11 hp hl v0 v1 v2 v3 v4 v5 v6 v7 v8 v9 v10 v11 v12 hall HAL
        have HN3 := Lib.hid (HN1.out.below hB)
        have HY3 := Lib.hid hy
        have HB3 := Lib.hid (HB1.out.trans (hB.mono HB1.out.size))
        have HHT := Lib.hid (fun w (h : Cells gn 63 (nodeV r n) w) => node_height HR.out h)
        clear hB hy hgy HNR HGN HDG HMT HFA HN1 HB1 hc1
        go_wp2_with fail
        go_loopw [11, 12] (fun v c wq => ∃ k : Nat, k ≤ n ∧ c = .int .i64 k ∧ OwnE w3.heap.size 61 v (pathK s k) wq ∧ Below w3.heap.size w3 wq) (fun _ c _ => n - (intOf c).toNat)
        case atStart => exact ⟨0, by omega, rfl, OwnE.nil _ _ _, Below.refl _ _⟩
        case round =>
          obtain ⟨k, hk, rfl, ho, hb⟩ := hrel
          have HO := Lib.hid ho
          have HB := Lib.hid hb
          have HNr := Lib.hid (HN3.out.below hb)
          have HYr := Lib.hid (HY3.out.below hb)
          have hcr := HHT.out _ HNr.out
          by_cases hlk : k < n
          · have hlk2 : (k : Int) < (n : Int) := by omega
            obtain ⟨wk, hwk⟩ : ∃ x, x = wr := ⟨_, rfl⟩
            subst hwk
            have HPN := Shut.mk (pathK_next s k)
            have HPL := Shut.mk (pathK_len s k)
            have hpl : (byteNs (part s (35 + k))).length = 16 := by rw [byteNs, List.length_map, part, List.length_take, List.length_drop]; omega
            have HPT := Lib.hid (byteNs_part_lt s (35 + k))
            have HPA := Lib.hid (fun q (hq : q < 16) => fun w => by
              have h := run_part_at (P := Tryd.prog) 9 Tryd.underlying9 s (35 + k) q hq (by omega) w
              rw [show (16 * ((35 + k : Nat) : Int) + (q : Int)) = 560 + 16 * (k : Int) + (q : Int) by omega] at h
              exact h)
            obtain ⟨PE, hPE⟩ : ∃ PE, byteNs (part s (35 + k)) = PE := ⟨_, rfl⟩
            obtain ⟨PA, hPA⟩ : ∃ PA, pathK s k = PA := ⟨_, rfl⟩
            rw [hPE] at HPN hpl HPT HPA
            rw [hPA] at HPN HPL HO
            have HPE := Lib.hid hpl
            clear ho hb hPE hPA hpl
            go_upto_region 9 with (fail)
            change Code.wp _ _ _ _ (wk.alloc (.cells (nums .u8 (List.replicate 16 0)).toArray 61))
            obtain ⟨w5, hw5⟩ : ∃ x', x' = wk.alloc (.cells (nums .u8 (List.replicate 16 0)).toArray 61) := ⟨_, rfl⟩
            rw [← hw5]
            have hb5 : Below wk.heap.size wk w5 := by rw [hw5]; exact (Below.refl _ _).alloc (Nat.le_refl _) _
            have HX5 := Lib.hid (show Blk wk.heap.size 61 .u8 (List.replicate 16 0) w5 by rw [hw5]; exact heap_alloc_new wk _)
            have HB5 := Lib.hid (hb5)
            obtain ⟨ge, hge⟩ : ∃ g, g = wk.heap.size := ⟨_, rfl⟩
            rw [← hge] at HX5 ⊢
            have HGE := Lib.hid (show wk.heap.size ≤ ge by omega)
            clear hw5 hb5 hge hcr
            go_wp2_with fail
            go_loopw [51] (fun c wq => ∃ q : Nat, q ≤ 16 ∧ c = .int .i64 q ∧ Blk ge 61 .u8 (cutP PE q) wq ∧ But ge w5 wq) (fun c _ => 16 - (intOf c).toNat)
            case atStart => exact ⟨0, by omega, rfl, HX5.out, But.refl _ _⟩
            case round =>
              clear HX5
              obtain ⟨q, hq, rfl, hx, hbq⟩ := hrel
              have HC := Lib.hid hx
              have HBQ := Lib.hid hbq
              clear hx hbq
              by_cases hlq : q < 16
              · have hix := HPA.out q hlq
                have c2 := HC.out.cell q (by rw [cutP_len (by rw [HPE.out]; exact Nat.le_refl _) hq]; exact hlq)
                have f2 := HC.out.frozen q
                have HS3 := Lib.hid (HC.out.set q (PE.getD q 0))
                rw [cutP_set (by rw [HPE.out]; exact Nat.le_refl _) hlq] at HS3
                generalize (cutP PE q).getD q 0 = z at c2
                generalize PE.getD q 0 = v at hix HS3
                go_wp2_with fail
                exact ⟨⟨q + 1, by omega, by go_num, HS3.out, HBQ.out.setCell _ _⟩, by simp [intOf]; omega⟩
              · obtain rfl : q = 16 := by omega
                rw [cutP_full, List.take_of_length_le (by rw [HPE.out]; exact Nat.le_refl _)] at HC
                have HX4 := Lib.hid (show Blk ge 61 .u8 PE wr from HC.out)
                have hb4 : Below wk.heap.size wk wr := But.toBelow HB5.out HBQ.out HGE.out HB5.out.size
                have HO4 := Lib.hid (HO.out.below hb4)
                have HB4 := Lib.hid (HB.out.trans (hb4.mono HB.out.size))
                have HW4 := Lib.hid (show w3.heap.size ≤ wr.heap.size from HB4.out.size)
                have HIP := Lib.hid (show (Tryd.prog.info? 61).map (·.size) = some PE.length by rw [HPE.out]; exact Tryd.infoE)
                clear HC HBQ HPA HO HB HB5 hb4
                go_wp2_with (first
                  | (refine wpList_load_nums rfl 61 _ rfl ge .u8 _ 61 _ rfl HX4.out Tryd.underlying61 rfl HIP.out ?_)
                  | (refine wpList_build_elem rfl 90 61 (.tmp 65) rfl PE rfl HPE.out Tryd.underlying90 Tryd.infoE16 ?_))
                intro w6 hl6 hb6
                have HL6 := Lib.hid (blk_news hl6.out)
                have HO6 := Lib.hid (HO4.out.below hb6.out)
                have HB6 := Lib.hid (HB4.out.trans (hb6.out.mono HB4.out.size))
                have HW6 := Lib.hid (show w3.heap.size ≤ w6.heap.size from Nat.le_trans HW4.out hb6.out.size)
                clear hl6 hb6 HO4 HB4 HX4
                go_wp2_with (at_builtin; refine wpList_append_elems rfl (.tmp 64) (.tmp 66) 90 61 rfl w3.heap.size _ rfl Tryd.underlying90 Tryd.infoE16 _ PA [PE] (Elems.one HPE.out HPT.out) ⟨wr.heap.size, 0, none⟩ 1 1 rfl rfl HO6.out rfl (by rw [flatE_one]; exact HL6.out) (by rw [HPL.out]; simp; omega) HW6.out ?_)
                intro v7 w7 ho7 hb7
                have HB7 := Lib.hid (HB6.out.trans hb7.out)
                clear hb7 HB6
                go_wp2_with fail
                exact ⟨⟨k + 1, by omega, by go_num, by rw [HPN.out]; exact ho7.out, HB7.out⟩, by simp [intOf]; omega⟩
          · obtain rfl : k = n := by omega
            have hnw : ¬ (k : Int) < (k : Int) := by omega
            obtain ⟨ao, co, rfl⟩ := ho.form
            have HPE := Lib.hid (pathK_elems (sig := s) (h := k) (by omega))
            have HEP := Lib.hid (ho.at HPE.out)
            have HPL := Lib.hid (pathK_len s k)
            have HCL := climbN_len HM1.out i (pathK s k) k
            have HCT := climbN_lt HM2.out i (pathK s k) k
            have hV := HIS.out ⟨by omega, by omega, hl⟩
            have HCM := Lib.hid (fun w hE => ref_climb M i (pathK s k) ao co w HM1.out HM2.out i0 i1 HPE.out hE (by rw [HPL.out]; omega))
            rw [pathK_len] at HCM ⊢
            obtain ⟨C, hC⟩ : ∃ C, climbN M i (pathK s k) k = C := ⟨_, rfl⟩
            rw [hC] at HCL HCT hV HCM
            have e1 := fun w => equal_elem C r HCL HR.out HCT LR.out w
            rw [← hV] at e1
            have HNR := Lib.hid (node_root HNr.out)
            have HGN := Lib.hid (show gn < wr.heap.size from HNr.out.lt)
            have HBr := Lib.hid (HB3.out.trans (hb.mono HB3.out.size))
            clear ho hb HCL HCT hV hC hl2
            go_upto_region 15 with (fail)
            refine wp_region_class (fun w' => Below wr.heap.size wr w') (by kernel_rfl) (by kernel_rfl) (Below.refl _ _).drew ?_
            repeat (first
              | (go_big_quiet_want; refine quiet_load_nums 61 _ rfl gy .u8 M 61 _ rfl (fun w' h => HYr.out.below h) Tryd.underlying61 rfl HIM.out ?_; go_big_quiet_on; simp only [Act.put, List.setIfInBounds_toArray, List.set_cons_zero, List.set_cons_succ])
              | (go_big_quiet_want; refine quiet_load_elem 61 _ rfl gn 0 r _ rfl (fun w' h => rangeAt_below HNR.out h HGN.out) Tryd.underlying61 rfl HIR.out ?_; go_big_quiet_on; simp only [Act.put, List.setIfInBounds_toArray, List.set_cons_zero, List.set_cons_succ])
              | go_big_quiet_step ((intro hs'; first
                  | rfl
                  | (go_at_call 82; exact (HCM.out _ (HEP.out.below hs')).mono fun e w' h => ⟨h.1, hs'.trans (h.2.mono hs'.size)⟩))))
            refine wpQuiet_nil ?_
            intro w9 hs9
            have HB9 := Lib.hid (HBr.out.trans (hs9.mono HBr.out.size))
            clear hs9 e1
            go_wp2_with fail
            go_ret
            exact ⟨rfl, HB9.out⟩
      · have hl2 : ((s.length : Int) != 560 + 16 * (n : Int)) = true := by simp; omega
        go_wp2_with fail
        go_ret
        exact ⟨by rw [HNOT.out (fun h => hl h.2.2)]; rfl, HB1.out⟩
end Go.Proofs.YtpfhlhcnmeodbaaDoor
namespace Go.Proofs.YtpfhlhcnmeodbaaDoor
open Go.RowKit Go.BigFrame
def NodesAt (ao : Option Addr) (N : List NodeN) (w : World) : Prop := RAt 17 ao (N.map nodL) w
theorem index_node (b o n c j : Nat) (hj : j < n) (w : World) : (Instr.indexAt 45 (.slice (some ⟨b, o, none⟩) n c) (.int .i64 (j : Int))).run Tryd.prog w = .ok (.pointer (some ⟨b, o + j * 17, none⟩)) w := by
  have h1 : (j : Int) < (n : Int) := by omega
  go_simp
end Go.Proofs.YtpfhlhcnmeodbaaDoor
namespace Go.Proofs.YtpfhlhcnmeodbaaDoor
open Go.RowKit Go.BigFrame
theorem quiet_indexAt {P : Program} {o : Oper} {a : Act} {C : World → Prop} {K : Act → Prop} (ty : TypeId) (x y : Operand) (ho : o.op = .indexAddr ty x y) (vx vy : Value) (q : Addr) (hx : a.eval x = vx) (hy : a.eval y = vy) (hr : ∀ w, (Instr.indexAt ty vx vy).run P w = .ok (.pointer (some q)) w) (hk : K (a.put o.dst (.pointer (some q)))) : o.quiet P a C K := by
  refine ⟨_, fun w _ => ?_, hk⟩
  unfold Oper.quietAt execOp
  simp only [ho, hx, hy, Sem.run_bind, hr w, Result.andThen_ok, Sem.run_pure]
  exact ⟨rfl, rfl⟩
end Go.Proofs.YtpfhlhcnmeodbaaDoor
namespace Go.Proofs.YtpfhlhcnmeodbaaDoor
open Go.RowKit Go.BigFrame
set_option maxHeartbeats 4000000 in
set_option maxRecDepth 100000 in
theorem ref_check16 (a : AuthN) (ao : Option Addr) (N : List NodeN) (c : Nat) (w : World) (hn0 : -9223372036854775808 ≤ a.node) (hn : a.node ≤ 9223372036854775807) (hi0 : -9223372036854775808 ≤ a.seq) (hi : a.seq ≤ 9223372036854775807) (hh : IdOk a.hash) (hs : a.sig.length ≤ 1000000)
    (hN : ∀ x ∈ N, x.Ok) (_hl : N.length ≤ 140737488351232) (hat : NodesAt ao N w) :
    Calls Tryd.prog 21 #[.agg (autV a), .slice ao N.length c] w fun r w' => r = .returned (.bool (checkN a N)) ∧ Below w.heap.size w w' := by
  have hx1 : Cells w.heap.size 26 (autV a) (w.alloc (.cells (autV a) 26)) := heap_alloc_new w _
  have HX1 := Lib.hid hx1
  have HB := Lib.hid (show Below w.heap.size w (w.alloc (.cells (autV a) 26)) from (Below.refl _ _).alloc (Nat.le_refl _) _)
  have HAT := Lib.hid (RAt.below hat HB.out)
  have HH := Lib.hid hh
  have HNN := Lib.hid hN
  have HSG := Lib.hid hs
  have HCK := Shut.mk (show checkN a N = if 0 ≤ a.node ∧ a.node < N.length ∧ 1 ≤ a.seq then verK (N.getD a.node.toNat ⟨[], 0⟩).root (N.getD a.node.toNat ⟨[], 0⟩).height (a.seq - 1) (wordB a.node a.seq a.hash) a.sig else false from rfl)
  have HG := Lib.hid (show ∀ x, N[a.node.toNat]? = some x → N.getD a.node.toNat ⟨[], 0⟩ = x from fun x hx => by rw [List.getD_eq_getElem?_getD, hx]; rfl)
  obtain ⟨n, hn2⟩ : ∃ n, a.node = n := ⟨_, rfl⟩
  obtain ⟨i, hi2⟩ : ∃ i, a.seq = i := ⟨_, rfl⟩
  obtain ⟨m, hm⟩ : ∃ m, N.length = m := ⟨_, rfl⟩
  have HM := Shut.mk hm
  rw [hn2] at hn hn0 HG HCK
  rw [hi2] at hi hi0 HCK
  rw [hm] at _hl HCK ⊢
  obtain ⟨c0, c1, c2, c3⟩ := aut_cells HH.out HX1.out
  rw [hn2] at c0
  rw [hi2] at c1
  clear hx1 hh hn2 hi2 hat hN hm hs
  go_enter Tryd.func21, Tryd.ntmps21
  go_upto_region 1 with (fail)
  obtain ⟨w1, hw1⟩ : ∃ x, x = w.alloc (.cells (autV a) 26) := ⟨_, rfl⟩
  rw [← hw1] at HX1 HB HAT c0 c1 c2 c3 ⊢
  clear hw1
  by_cases h1 : n < 0
  · have HF := Shut.mk (show checkN a N = false by rw [HCK.out, if_neg (by omega)])
    go_wp2_with fail
    go_ret
    exact ⟨by rw [HF.out]; rfl, HB.out⟩
  · by_cases h2 : n ≥ m
    · have HF := Shut.mk (show checkN a N = false by rw [HCK.out, if_neg (by omega)])
      go_wp2_with fail
      go_ret
      exact ⟨by rw [HF.out]; rfl, HB.out⟩
    · by_cases h3 : i < 1
      · have HF := Shut.mk (show checkN a N = false by rw [HCK.out, if_neg (by omega)])
        go_wp2_with fail
        go_ret
        exact ⟨by rw [HF.out]; rfl, HB.out⟩
      · obtain ⟨k, rfl⟩ := Int.eq_ofNat_of_zero_le (show 0 ≤ n by omega)
        have hkm : k < m := by omega
        obtain ⟨x, hx⟩ : ∃ x, N[k]? = some x := ⟨_, List.getElem?_eq_getElem (by rw [HM.out]; exact hkm)⟩
        have HXO := Lib.hid (HNN.out x (List.mem_of_getElem? hx))
        have HF := Shut.mk (show checkN a N = verK x.root x.height (i - 1) (wordB k i a.hash) a.sig by
          rw [HCK.out, if_pos (by omega), HG.out x (by rw [Int.toNat_natCast]; exact hx)])
        obtain ⟨b, ob, rfl, hbl, hr⟩ := RAt.getM HAT.out hx
        have HIX := Lib.hid (index_node b ob m c k hkm)
        have HSN := Lib.hid (show (Tryd.prog.info? 63).map (·.size) = some (nodL x).length by rw [nodL_len HXO.out]; exact Tryd.sizeNo)
        have HSI := Lib.hid (show (Tryd.prog.info? 24).map (·.size) = some (nums .u8 a.hash).length by rw [nums_len, HH.out.1]; exact Tryd.sizeI)
        have hg := HX1.out.lt
        have HC0 := Lib.hid (fun (w' : World) (q : Below w1.heap.size w1 w') => (q.cell (p := ⟨w.heap.size, 0, none⟩) hg).trans c0)
        have HC1 := Lib.hid (fun (w' : World) (q : Below w1.heap.size w1 w') => (q.cell (p := ⟨w.heap.size, 1, none⟩) hg).trans c1)
        have HC2 := Lib.hid (fun (w' : World) (q : Below w1.heap.size w1 w') => rangeAt_belowI c2 q hg)
        have HC3 := Lib.hid (fun (w' : World) (q : Below w1.heap.size w1 w') => (q.cell (p := ⟨w.heap.size, 34, none⟩) hg).trans c3)
        have HC4 := Lib.hid (fun (w' : World) (q : Below w1.heap.size w1 w') => rangeAt_belowI hr q hbl)
        have HW := Lib.hid (fun w' => ref_word k i a.hash hn hi HH.out w')
        go_upto_region 3 with (fail)
        clear c0 c1 c2 c3 hg hx hr hbl HG HCK HAT
        refine wp_region_class_tail (fun w' => Below w1.heap.size w1 w') 17 (by kernel_rfl) (by kernel_rfl) (Below.refl _ _).drew ?_
        simp only [List.take_succ_cons, List.take_zero, List.drop_succ_cons, List.drop_zero]
        repeat (first
          | (go_big_quiet_want; refine quiet_load_cell 3 _ rfl ⟨w.heap.size, 0, none⟩ _ rfl HC0.out Tryd.isAgg3 ?_; go_big_quiet_on; simp only [Act.put, List.setIfInBounds_toArray, List.set_cons_zero, List.set_cons_succ])
          | (go_big_quiet_want; refine quiet_load_cell 3 _ rfl ⟨w.heap.size, 1, none⟩ _ rfl HC1.out Tryd.isAgg3 ?_; go_big_quiet_on; simp only [Act.put, List.setIfInBounds_toArray, List.set_cons_zero, List.set_cons_succ])
          | (go_big_quiet_want; refine quiet_load_cell 9 _ rfl ⟨w.heap.size, 34, none⟩ _ rfl HC3.out Tryd.isAgg9 ?_; go_big_quiet_on; simp only [Act.put, List.setIfInBounds_toArray, List.set_cons_zero, List.set_cons_succ])
          | (go_big_quiet_want; refine quiet_load_row 24 _ rfl w.heap.size 2 (nums .u8 a.hash) _ rfl HC2.out Tryd.underlying24 rfl HSI.out ?_; go_big_quiet_on; simp only [Act.put, List.setIfInBounds_toArray, List.set_cons_zero, List.set_cons_succ])
          | (go_big_quiet_want; refine quiet_load_row 63 _ rfl b (ob + k * 17) (nodL x) _ rfl HC4.out Tryd.underlying63 rfl HSN.out ?_; go_big_quiet_on; simp only [Act.put, List.setIfInBounds_toArray, List.set_cons_zero, List.set_cons_succ])
          | (go_big_quiet_want; refine quiet_indexAt 45 _ _ rfl _ _ _ rfl rfl HIX.out ?_; go_big_quiet_on; simp only [Act.put, List.setIfInBounds_toArray, List.set_cons_zero, List.set_cons_succ])
          | go_big_quiet_step ((intro hs'; first
              | (go_at_call 18; exact (HW.out _).mono fun e w' h => ⟨h.1, hs'.trans (h.2.mono hs'.size)⟩)
              | rfl)))
        refine wpQuiet_nil ?_
        intro w2 hs2
        have HB2 := Lib.hid (HB.out.trans (hs2.mono HB.out.size))
        clear hs2 HX1 HB HC0 HC1 HC2 HC3 HC4 HW
        go_wp2_with fail
        refine (ref_verify6 x.root x.height (i - 1) (wordB k i a.hash) a.sig w2 HXO.out.root.1 HXO.out.root.2 HXO.out.low HXO.out.high (by omega) (by omega) (Nat.le_trans (wordB_len hn hi HH.out) (by decide)) HSG.out).mono ?_
        rintro e w3 ⟨rfl, hb⟩
        have HB3 := Lib.hid (HB2.out.trans (hb.mono HB2.out.size))
        clear hb HB2
        go_wp2_with fail
        go_ret
        exact ⟨by rw [HF.out]; rfl, HB3.out⟩
end Go.Proofs.YtpfhlhcnmeodbaaDoor
namespace Go.Proofs.YtpfhlhcnmeodbaaDoor
open Go.RowKit Go.BigFrame
set_option maxHeartbeats 4000000 in
set_option maxRecDepth 100000 in
theorem dev_elems (s : List UInt8) (k : Nat) (w : World) (hs : s.length = 16 * k) (hk8 : k ≤ 1000000) :
    Calls Tryd.prog 78 #[.string ⟨s.toArray⟩] w fun e w' => (∃ v, e = .returned v ∧ OwnE w.heap.size 61 v (cutE s k) w') ∧ Below w.heap.size w w' := by
  obtain ⟨i0, hi, hz0, hz1, hz2⟩ := info_parts Tryd.infoE16
  have HIF := Lib.hid hi
  have HZ0 := Lib.hid hz0
  have HZ1 := Lib.hid hz1
  have HZ2 := Lib.hid hz2
  have HS := Shut.mk hs
  have hq : (s.length : Int) / 16 = (k : Int) := by omega
  have HQ := Lib.hid hq
  clear hi hz0 hz1 hz2 hs
  go_enter Tryd.func78, Tryd.ntmps78
  go_wp2_with (at_make; refine wpList_make_full _ rfl _ _ 90 rfl w.heap.size 61 i0 _ 16 Tryd.underlying90 HIF.out HZ0.out HZ1.out .i64 .i64 _ _ k rfl rfl (by first | rfl | exact HQ.out) (by first | rfl | exact HQ.out) (by rw [HZ2.out]; omega) (by unfold maxLen; omega) (Nat.le_refl _) ?_)
  intro w2 ho2 hg2
  have hb2 : Below w.heap.size w w2 := (Below.refl w.heap.size w).grown hg2 (Nat.le_refl _) (by intro g hg; cases hg)
  have HO2 := Lib.hid (show OwnE w.heap.size 61 (.slice (some ⟨w.heap.size, 0, none⟩) k k) (partC s k 0) w2 by rw [partC_zero]; exact OwnE.made ho2)
  have HB2 := Lib.hid hb2
  obtain ⟨g, hg⟩ : ∃ g, g = w.heap.size := ⟨_, rfl⟩
  rw [← hg] at HO2 ⊢
  have HGW := Lib.hid (show w.heap.size ≤ g by omega)
  have HGE := Shut.mk hg
  clear ho2 hg2 hb2 hg hq
  go_wp2_with fail
  go_loopw [11] (fun n wq => ∃ i : Nat, i ≤ k ∧ n = .int .i64 i ∧ OwnE g 61 (.slice (some ⟨g, 0, none⟩) k k) (partC s k i) wq ∧ Below w.heap.size w wq) (fun n _ => k - (intOf n).toNat)
  case atStart => exact ⟨0, by omega, rfl, HO2.out, HB2.out⟩
  case round =>
    clear HO2 HB2
    obtain ⟨i, hik, rfl, ho, hb⟩ := hrel
    have HO := Lib.hid ho
    have HB := Lib.hid hb
    clear ho hb
    by_cases hli : i < k
    · have hli2 : (i : Int) < (k : Int) := by omega
      have hlen := HS.out
      have hbd : (i : Int) * 16 ≤ (s.length : Int) := by omega
      have hcut : (⟨s.toArray⟩ : ByteArray).extract (i * 16) s.length = ⟨(s.drop (i * 16)).toArray⟩ := extract_tail s (i * 16)
      have hsl : (⟨s.toArray⟩ : ByteArray).size = s.length := by simp [ByteArray.size]
      have HPS := Shut.mk (partC_set s hli)
      have HPE := Lib.hid (partC_ok (s := s) (k := k) (i := i) (by omega))
      have HPL := Shut.mk (partC_len s (Nat.le_of_lt hli))
      have H16 := Lib.hid (show 16 ≤ (s.drop (i * 16)).length by rw [List.length_drop]; omega)
      have HPT := Shut.mk (show byteNs ((s.drop (i * 16)).take 16) = byteNs (part s i) by rw [part, Nat.mul_comm 16 i])
      obtain ⟨P0, hP0⟩ : ∃ P0, partC s k i = P0 := ⟨_, rfl⟩
      rw [hP0] at HPS HPE HPL HO
      clear hP0 hlen
      go_upto_region 5 with (fail)
      refine wp_region_class_tail (fun w' => Below wr.heap.size wr w') 8 (by kernel_rfl) (by kernel_rfl) (Below.refl _ _).drew ?_
      simp only [List.take_succ_cons, List.take_zero, List.drop_succ_cons, List.drop_zero]
      repeat go_big_quiet_step ((intro hs'; rfl))
      refine wpQuiet_nil ?_
      intro w4 hs4
      rw [hcut]
      have HO4 := Lib.hid (HO.out.below hs4)
      have HB4 := Lib.hid (HB.out.trans (hs4.mono HB.out.size))
      obtain ⟨S', hS'⟩ : ∃ S', s.drop (i * 16) = S' := ⟨_, rfl⟩
      rw [hS'] at H16 HPT ⊢
      clear hs4 HO HB hcut hsl hbd hS'
      go_wp2_with (refine wpList_copy_elem rfl (.tmp 17) (.tmp 21) 73 9 rfl 5 Tryd.underlying73 (by kernel_rfl) g g k k i (i * 16) 16 61 P0 S' HPL.out.symm (Nat.mul_comm _ _) rfl rfl HO4.out HPE.out hli H16.out ?_)
      intro w5 ho5 hb5
      have HO5 := Lib.hid (show OwnE g 61 (.slice (some ⟨g, 0, none⟩) k k) (partC s k (i + 1)) w5 by rw [← HPS.out, ← HPT.out]; exact ho5.out)
      have HB5 := Lib.hid (show Below w.heap.size w w5 from But.toBelow HB4.out hb5.out HGW.out HB4.out.size)
      clear ho5 hb5 HO4 HB4 HPS HPE HPL HPT
      go_wp2_with fail
      exact ⟨⟨i + 1, by omega, by go_num, HO5.out, HB5.out⟩, by simp [intOf]; omega⟩
    · obtain rfl : i = k := by omega
      have hnw : ¬ (i : Int) < (i : Int) := by omega
      rw [partC_full] at HO
      have HOr := Lib.hid (HO.out.mono HGW.out)
      clear HO
      go_wp2_with fail
      go_ret
      exact ⟨⟨_, rfl, HOr.out⟩, HB.out⟩
def RowE (s : Nat → Bool) (V : Nat → Value) (i n : Nat) (L : List (List Nat)) (w : World) : Prop := s i = true → ∃ ao c, V i = .slice ao n c ∧ EAt ao L w
theorem RowE.none {V : Nat → Value} {i n : Nat} {L : List (List Nat)} {w : World} : RowE (fun _ => false) V i n L w := fun h => by cases h
theorem RowE.ne {s : Nat → Bool} {V : Nat → Value} {i j n : Nat} {L : List (List Nat)} {w w' : World} {u : Value} (h : RowE s V j n L w) (hne : j ≠ i) (hb : Below w.heap.size w w') : RowE (fun j => s j || j == i) (upd V i u) j n L w' := fun hs => by
  obtain ⟨ao, c, e, hk⟩ := h (seen_ne hne hs)
  exact ⟨ao, c, by rw [upd_ne V u hne]; exact e, hk.below hb⟩
theorem RowE.same {s : Nat → Bool} {V : Nat → Value} {i n : Nat} {L : List (List Nat)} {w : World} {ao : Option Addr} {c : Nat} (h : EAt ao L w) : RowE (fun j => s j || j == i) (upd V i (.slice ao n c)) i n L w :=
  fun _ => ⟨ao, c, upd_same _ _ _, h⟩
end Go.Proofs.YtpfhlhcnmeodbaaDoor
namespace Go.Proofs.YtpfhlhcnmeodbaaDoor
open Go.RowKit Go.BigFrame
set_option maxHeartbeats 4000000 in
set_option maxRecDepth 100000 in
theorem dev_verify6 (r : List Nat) (h i : Int) (t s : List UInt8) (w : World) (hr : r.length = 16) (lr : ∀ y ∈ r, y < 256) (h0 : -9223372036854775808 ≤ h) (h1 : h ≤ 9223372036854775807) (i0 : -9223372036854775808 ≤ i) (i1 : i ≤ 9223372036854775807)
    (ht : t.length ≤ 1000000) (_hs : s.length ≤ 1000000) (hk : KAt w) :
    Calls Tryd.prog 45 #[.agg (nodeV r h), .int .i64 i, .string ⟨t.toArray⟩, .string ⟨s.toArray⟩] w fun e w' => e = .returned (.bool (verK r h i t s)) ∧ Below w.heap.size w w' := by
  have HR := Lib.hid hr
  have LR := Lib.hid lr
  have HK := Lib.hid hk
  have HNOT := Shut.mk (fun hb => verK_not (root := r) (h := h) (i := i) (text := t) (sig := s) hb)
  have HIS := Shut.mk (fun hb => verK_is (root := r) (h := h) (i := i) (text := t) (sig := s) hb)
  have HWZ := Shut.mk (wideN_zero (h := h))
  obtain ⟨VV, hV⟩ : ∃ VV, verK r h i t s = VV := ⟨_, rfl⟩
  rw [hV] at HNOT HIS ⊢
  clear hr lr hV hk
  go_enter Tryd.func45, Tryd.ntmps45
  go_upto_region 1 with (fail)
  obtain ⟨w1, hw1⟩ : ∃ x', x' = w.alloc (.cells (nodeV r h) 63) := ⟨_, rfl⟩
  rw [← hw1]
  have hb1 : Below w.heap.size w w1 := by rw [hw1]; exact (Below.refl _ _).alloc (Nat.le_refl _) _
  have hn1 : Cells w.heap.size 63 (nodeV r h) w1 := by rw [hw1]; exact heap_alloc_new w _
  have HN1 := Lib.hid hn1
  have HB1 := Lib.hid hb1
  have HK2 := Lib.hid (HK.out.below hb1)
  have hc1 := node_height HR.out hn1
  obtain ⟨gn, hgn⟩ : ∃ g, g = w.heap.size := ⟨_, rfl⟩
  rw [← hgn] at HN1 hc1 ⊢
  clear hb1 hn1 hw1 hgn HK
  by_cases hv : 1 ≤ h ∧ h ≤ 8
  · have HD := Shut.mk (decide_eq_true hv)
    obtain ⟨n, rfl⟩ : ∃ n : Nat, h = n := ⟨h.toNat, by omega⟩
    have hn1 : 1 ≤ n := by omega
    have hn8 : n ≤ 8 := by omega
    rw [wideN_ok hn1 hn8] at HNOT HIS
    rw [Int.toNat_natCast] at HNOT HIS
    have hsh := shl_two hn8
    have hw8 := two_le hn8
    obtain ⟨W, hW⟩ : ∃ W, 2 ^ n = W := ⟨_, rfl⟩
    rw [hW] at HNOT HIS hsh hw8
    clear hW HWZ hv
    by_cases hi : i < 0
    · clear hsh
      go_wp2_with fail
      refine (dev_valid n w1 true HD.out).mono ?_
      rintro e w2 ⟨rfl, rfl⟩
      go_wp2_with fail
      go_ret
      exact ⟨by rw [HNOT.out (by omega)]; rfl, HB1.out⟩
    · by_cases hiw : (W : Int) ≤ i
      · have hge : wrap64 ((2 : Int) ^ n) ≤ i := by rw [hsh]; exact hiw
        clear hsh
        go_wp2_with fail
        refine (dev_valid n w1 true HD.out).mono ?_
        rintro e w2 ⟨rfl, rfl⟩
        go_wp2_with fail
        go_ret
        exact ⟨by rw [HNOT.out (by omega)]; rfl, HB1.out⟩
      · have hge : ¬ wrap64 ((2 : Int) ^ n) ≤ i := by rw [hsh]; exact hiw
        clear hsh
        go_wp2_with fail
        refine (dev_valid n w1 true HD.out).mono ?_
        rintro e wv ⟨rfl, rfl⟩
        go_wp2_with fail
        refine (dev_sizeK n wv (by omega) (by omega)).mono ?_
        rintro e w2 ⟨rfl, hb2⟩
        have HNb := Lib.hid (HN1.out.below hb2)
        have HBb := Lib.hid (HB1.out.trans (hb2.mono HB1.out.size))
        have HKb := Lib.hid (HK2.out.below hb2)
        clear hb2 HN1 HB1 HK2 hc1
        obtain ⟨HN1, HB1, HK2⟩ : _ ∧ _ ∧ _ := ⟨HNb, HBb, HKb⟩
        clear HNb HBb HKb
        have hc1 := node_height HR.out HN1.out
        by_cases hl : s.length = 560 + 16 * n
        · have hl2 : ((s.length : Int) != 560 + 16 * (n : Int)) = false := by simp; omega
          have HSL := Lib.hid (show 560 ≤ s.length by omega)
          have HFA := Lib.hid (show ∀ w, (Instr.fieldAt 63 (.pointer (some ⟨gn, 0, none⟩)) 0).run Tryd.prog w = .ok (.pointer (some ⟨gn, 0, none⟩)) w from fun w => by go_simp)
          have HNR := Lib.hid (node_root HN1.out)
          have HGN := Lib.hid (show gn < w2.heap.size from HN1.out.lt)
          have HIR := Lib.hid (show (Tryd.prog.info? 61).map (·.size) = some r.length by rw [HR.out]; exact Tryd.infoE)
          have HDG := Lib.hid (fun w hk => dev_digest6 r i t w HR.out LR.out i0 i1 ht hk)
          have hd1 := digK_len r i t
          have hd2 := digK_lt r i t
          obtain ⟨D, hD⟩ : ∃ D, digK r i t = D := ⟨_, rfl⟩
          rw [hD] at HDG hd1 hd2 HIS
          have HMT := Lib.hid (fun w hk => dev_meet (s.take 560) i D w (by rw [List.length_take]; omega) i0 i1 hd1 hd2 hk)
          rw [meetN_take] at HMT
          have hm1 := keyN_len (rowE (metF s i D) 35) i
          have hm2 := keyN_lt (rowE (metF s i D) 35) i
          rw [show keyN (rowE (metF s i D) 35) i = meetN s i D from rfl] at hm1 hm2
          obtain ⟨M, hM⟩ : ∃ M, meetN s i D = M := ⟨_, rfl⟩
          rw [hM] at HMT hm1 hm2 HIS
          have HIM := Lib.hid (show (Tryd.prog.info? 61).map (·.size) = some M.length by rw [hm1]; exact Tryd.infoE)
          have HLM := Lib.hid (show (List.replicate 16 0).length = M.length by rw [hm1]; rfl)
          have HM1 := Lib.hid hm1
          have HM2 := Lib.hid hm2
          clear hD hM hd1 hd2 hm1 hm2
          go_upto_region 3 with (fail)
          have HAL := Lib.hid (show ∀ w : World, (Instr.alloc 61 true (.tuple #[])).run Tryd.prog w = .ok (.pointer (some ⟨w.heap.size, 0, none⟩)) (w.alloc (.cells (nums .u8 (List.replicate 16 0)).toArray 61)) from fun w => by kernel_rfl)
          refine wp_region_free 14 (fun q V w' => Below w2.heap.size w2 w' ∧ Val q V 0 (.string ⟨s.toArray⟩) ∧ Val q V 1 (.string ⟨(s.take 560).toArray⟩) ∧ Val q V 2 (.int .i64 i) ∧ Val q V 3 (.pointer (some ⟨gn, 0, none⟩)) ∧ Val q V 4 (.agg (nums .u8 r).toArray) ∧ Val q V 5 (.int .i64 i) ∧ Val q V 6 (.string ⟨t.toArray⟩) ∧ Val q V 7 (.agg (nums .u8 D).toArray) ∧ Val q V 8 (.tuple #[.agg (nums .u8 M).toArray, .int .i64 0]) ∧ Val q V 9 (.tuple #[.agg (nums .u8 M).toArray, .int .i64 0]) ∧ Val q V 10 (.agg (nums .u8 M).toArray) ∧ Val q V 11 (.int .i64 0) ∧ Put q V w2.heap.size 12 13 61 .u8 (List.replicate 16 0) M w' ∧ Late q 12 13) (fun _ => undef) (by kernel_rfl) (by kernel_rfl) (by kernel_rfl) (by simp only [List.take_succ_cons, List.take_zero, putAll, Act.put, List.setIfInBounds_toArray, List.set_cons_zero, List.set_cons_succ]) ⟨(Below.refl _ _).drew, Val.none, Val.none, Val.none, Val.none, Val.none, Val.none, Val.none, Val.none, Val.none, Val.none, Val.none, Val.none, Put.none, Late.none⟩ ?_ ?_
          · simp only [List.take_succ_cons, List.take_zero, putAll, Nat.zero_add, Nat.reduceAdd, Act.put, List.setIfInBounds_toArray, List.set_cons_zero, List.set_cons_succ]
            refine FreeSteps.cons ?_ (FreeSteps.cons ?_ (FreeSteps.cons ?_ (FreeSteps.cons ?_ (FreeSteps.cons ?_ (FreeSteps.cons ?_ (FreeSteps.cons ?_ (FreeSteps.cons ?_ (FreeSteps.cons ?_ (FreeSteps.cons ?_ (FreeSteps.cons ?_ (FreeSteps.cons ?_ (FreeSteps.cons ?_ (FreeSteps.cons ?_ (FreeSteps.nil))))))))))))))
            all_goals (refine FreeStep.fresh rfl ?_; rintro q V wq hr hu ⟨hB, h0, h1, h2, h3, h4, h5, h6, h7, h8, h9, h10, h11, hp, hl⟩ K hK)
            · exact op_move (.tmp 3) rfl (.string ⟨s.toArray⟩) rfl (hK _ _ ⟨hB, .same, h1.ne (by decide), h2.ne (by decide), h3.ne (by decide), h4.ne (by decide), h5.ne (by decide), h6.ne (by decide), h7.ne (by decide), h8.ne (by decide), h9.ne (by decide), h10.ne (by decide), h11.ne (by decide), hp.ne (by decide) (by decide) (Below.refl _ _), hl.ne (by decide)⟩)
            · exact op_slice_head 9 (.tmp 35) 560 rfl s (h0 (hr { on := 0, ground := .data } (by simp) rfl)) Tryd.underlying9 HSL.out (hK _ _ ⟨hB, h0.ne (by decide), .same, h2.ne (by decide), h3.ne (by decide), h4.ne (by decide), h5.ne (by decide), h6.ne (by decide), h7.ne (by decide), h8.ne (by decide), h9.ne (by decide), h10.ne (by decide), h11.ne (by decide), hp.ne (by decide) (by decide) (Below.refl _ _), hl.ne (by decide)⟩)
            · exact op_move (.tmp 1) rfl (.int .i64 i) rfl (hK _ _ ⟨hB, h0.ne (by decide), h1.ne (by decide), .same, h3.ne (by decide), h4.ne (by decide), h5.ne (by decide), h6.ne (by decide), h7.ne (by decide), h8.ne (by decide), h9.ne (by decide), h10.ne (by decide), h11.ne (by decide), hp.ne (by decide) (by decide) (Below.refl _ _), hl.ne (by decide)⟩)
            · exact op_field0 63 (.tmp 4) rfl gn rfl HFA.out (hK _ _ ⟨hB, h0.ne (by decide), h1.ne (by decide), h2.ne (by decide), .same, h4.ne (by decide), h5.ne (by decide), h6.ne (by decide), h7.ne (by decide), h8.ne (by decide), h9.ne (by decide), h10.ne (by decide), h11.ne (by decide), hp.ne (by decide) (by decide) (Below.refl _ _), hl.ne (by decide)⟩)
            · exact op_load_elem 61 (.tmp 38) rfl gn 0 r _ (h3 (hr { on := 3, ground := .data } (by simp) rfl)) (rangeAt_below HNR.out hB HGN.out) Tryd.underlying61 rfl HIR.out (hK _ _ ⟨hB, h0.ne (by decide), h1.ne (by decide), h2.ne (by decide), h3.ne (by decide), .same, h5.ne (by decide), h6.ne (by decide), h7.ne (by decide), h8.ne (by decide), h9.ne (by decide), h10.ne (by decide), h11.ne (by decide), hp.ne (by decide) (by decide) (Below.refl _ _), hl.ne (by decide)⟩)
            · exact op_move (.tmp 1) rfl (.int .i64 i) rfl (hK _ _ ⟨hB, h0.ne (by decide), h1.ne (by decide), h2.ne (by decide), h3.ne (by decide), h4.ne (by decide), .same, h6.ne (by decide), h7.ne (by decide), h8.ne (by decide), h9.ne (by decide), h10.ne (by decide), h11.ne (by decide), hp.ne (by decide) (by decide) (Below.refl _ _), hl.ne (by decide)⟩)
            · exact op_move (.tmp 2) rfl (.string ⟨t.toArray⟩) rfl (hK _ _ ⟨hB, h0.ne (by decide), h1.ne (by decide), h2.ne (by decide), h3.ne (by decide), h4.ne (by decide), h5.ne (by decide), .same, h7.ne (by decide), h8.ne (by decide), h9.ne (by decide), h10.ne (by decide), h11.ne (by decide), hp.ne (by decide) (by decide) (Below.refl _ _), hl.ne (by decide)⟩)
            · refine op_call Tryd.func55 rfl rfl rfl [.agg (nums .u8 r).toArray, .int .i64 i, .string ⟨t.toArray⟩] (cons_eq (h4 (hr { on := 4, ground := .data } (by simp) rfl)) (cons_eq (h5 (hr { on := 5, ground := .data } (by simp) rfl)) (cons_eq (h6 (hr { on := 6, ground := .data } (by simp) rfl)) rfl))) (HDG.out wq (HK2.out.below hB)) ?_
              rintro e w' ⟨rfl, hb⟩
              exact ⟨_, rfl, hK _ _ ⟨hB.trans (hb.mono hB.size), h0.ne (by decide), h1.ne (by decide), h2.ne (by decide), h3.ne (by decide), h4.ne (by decide), h5.ne (by decide), h6.ne (by decide), .same, h8.ne (by decide), h9.ne (by decide), h10.ne (by decide), h11.ne (by decide), hp.ne (by decide) (by decide) hb, hl.ne (by decide)⟩⟩
            · refine op_call Tryd.func76 rfl rfl rfl [.string ⟨(s.take 560).toArray⟩, .int .i64 i, .agg (nums .u8 D).toArray] (cons_eq (h1 (hr { on := 1, ground := .data } (by simp) rfl)) (cons_eq (h2 (hr { on := 2, ground := .data } (by simp) rfl)) (cons_eq (h7 (hr { on := 7, ground := .data } (by simp) rfl)) rfl))) (HMT.out wq (HK2.out.below hB)) ?_
              rintro e w' ⟨rfl, hb⟩
              exact ⟨_, rfl, hK _ _ ⟨hB.trans (hb.mono hB.size), h0.ne (by decide), h1.ne (by decide), h2.ne (by decide), h3.ne (by decide), h4.ne (by decide), h5.ne (by decide), h6.ne (by decide), h7.ne (by decide), .same, h9.ne (by decide), h10.ne (by decide), h11.ne (by decide), hp.ne (by decide) (by decide) hb, hl.ne (by decide)⟩⟩
            · exact op_move (.tmp 43) rfl _ (h8 (hr { on := 8, ground := .data } (by simp) rfl)) (hK _ _ ⟨hB, h0.ne (by decide), h1.ne (by decide), h2.ne (by decide), h3.ne (by decide), h4.ne (by decide), h5.ne (by decide), h6.ne (by decide), h7.ne (by decide), h8.ne (by decide), .same, h10.ne (by decide), h11.ne (by decide), hp.ne (by decide) (by decide) (Below.refl _ _), hl.ne (by decide)⟩)
            · exact op_extract (.tmp 34) 0 rfl _ _ (h9 (hr { on := 9, ground := .data } (by simp) rfl)) rfl (hK _ _ ⟨hB, h0.ne (by decide), h1.ne (by decide), h2.ne (by decide), h3.ne (by decide), h4.ne (by decide), h5.ne (by decide), h6.ne (by decide), h7.ne (by decide), h8.ne (by decide), h9.ne (by decide), .same, h11.ne (by decide), hp.ne (by decide) (by decide) (Below.refl _ _), hl.ne (by decide)⟩)
            · exact op_extract (.tmp 34) 1 rfl _ _ (h9 (hr { on := 9, ground := .data } (by simp) rfl)) rfl (hK _ _ ⟨hB, h0.ne (by decide), h1.ne (by decide), h2.ne (by decide), h3.ne (by decide), h4.ne (by decide), h5.ne (by decide), h6.ne (by decide), h7.ne (by decide), h8.ne (by decide), h9.ne (by decide), h10.ne (by decide), .same, hp.ne (by decide) (by decide) (Below.refl _ _), hl.ne (by decide)⟩)
            · have hb : Below wq.heap.size wq (wq.alloc (.cells (nums .u8 (List.replicate 16 0)).toArray 61)) := (Below.refl _ _).alloc (Nat.le_refl _) _
              exact op_alloc 61 rfl _ HAL.out (hK _ _ ⟨hB.trans (hb.mono hB.size), h0.ne (by decide), h1.ne (by decide), h2.ne (by decide), h3.ne (by decide), h4.ne (by decide), h5.ne (by decide), h6.ne (by decide), h7.ne (by decide), h8.ne (by decide), h9.ne (by decide), h10.ne (by decide), h11.ne (by decide), .made hB.size (hl.not hu) (by decide), hl.ne (by decide)⟩)
            · have h12 : q 12 = true := hr { on := 12, ground := .data } (by simp) rfl
              obtain ⟨g, hg0, hg1, hg2⟩ := hp h12
              rw [if_neg (by rw [hu]; decide)] at hg2
              refine op_store_nums 61 (.tmp 9) (.tmp 44) rfl g .u8 _ M 61 hg0 (h10 (hr { on := 10, ground := .data } (by simp) rfl)) hg2 HIM.out HLM.out ?_
              intro w' hx hb
              exact hK _ _ ⟨But.toBelow hB hb hg1 hB.size, h0.ne (by decide), h1.ne (by decide), h2.ne (by decide), h3.ne (by decide), h4.ne (by decide), h5.ne (by decide), h6.ne (by decide), h7.ne (by decide), h8.ne (by decide), h9.ne (by decide), h10.ne (by decide), h11.ne (by decide), .stored hg0 hg1 (by decide) hx, .same h12⟩
          rintro q V w3 hall ⟨hB, h0, h1, h2, h3, h4, h5, h6, h7, h8, h9, h10, h11, hp, hl⟩
          have v0 := h0 (hall 0 (by decide))
          have v1 := h1 (hall 1 (by decide))
          have v2 := h2 (hall 2 (by decide))
          have v3 := h3 (hall 3 (by decide))
          have v4 := h4 (hall 4 (by decide))
          have v5 := h5 (hall 5 (by decide))
          have v6 := h6 (hall 6 (by decide))
          have v7 := h7 (hall 7 (by decide))
          have v8 := h8 (hall 8 (by decide))
          have v9 := h9 (hall 9 (by decide))
          have v10 := h10 (hall 10 (by decide))
          have v11 := h11 (hall 11 (by decide))
          obtain ⟨gy, v12, hgy, hy⟩ := hp (hall 12 (by decide))
          rw [if_pos (hall 13 (by decide))] at hy
          simp only [List.take_succ_cons, List.take_zero, List.drop_succ_cons, List.drop_zero, putAll, Nat.zero_add, Nat.reduceAdd, v0, v1, v2, v3, v4, v5, v6, v7, v8, v9, v10, v11, v12, Act.put, List.setIfInBounds_toArray, List.set_cons_zero, List.set_cons_succ]
          clear h0 h1 h2 h3 h4 h5 h6 h7 h8 h9 h10 h11 hp hl v0 v1 v2 v3 v4 v5 v6 v7 v8 v9 v10 v11 v12 hall HAL
          have HN3 := Lib.hid (HN1.out.below hB)
          have HY3 := Lib.hid hy
          have HB3 := Lib.hid (HB1.out.trans (hB.mono HB1.out.size))
          have HK3 := Lib.hid (HK2.out.below hB)
          clear hB hy hgy HNR HGN HDG HMT HFA HN1 HB1 HK2 hc1 hl2 hge
          have HPL := Shut.mk (pathK_len s n)
          have HPE := Lib.hid (pathK_elems (sig := s) (h := n) (by omega))
          have HEL := Lib.hid (fun w => (dev_elems (s.drop 560) n w (by rw [List.length_drop]; omega) (by omega)).mono (R' := fun e w' => (∃ ao co, e = .returned (.slice ao n co) ∧ EAt ao (pathK s n) w') ∧ Below w.heap.size w w') fun e w' he => by
            obtain ⟨⟨v, rfl, ho⟩, hb⟩ := he
            rw [cutE_drop] at ho
            obtain ⟨ao, co, rfl⟩ := ho.form
            rw [HPL.out] at ho ⊢
            exact ⟨⟨ao, co, rfl, ho.at HPE.out⟩, hb⟩)
          have HCM := Lib.hid (fun ao co w hE hk => dev_climb M i (pathK s n) ao co w HM1.out HM2.out i0 i1 HPE.out hE (by rw [HPL.out]; omega) hk)
          rw [HPL.out] at HCM
          have hV := HIS.out ⟨by omega, by omega, hl⟩
          have HCL := climbN_len HM1.out i (pathK s n) n
          have HCT := climbN_lt HM2.out i (pathK s n) n
          obtain ⟨C, hC⟩ : ∃ C, climbN M i (pathK s n) n = C := ⟨_, rfl⟩
          rw [hC] at hV HCM HCL HCT
          have he1 := fun w => equal_elem C r HCL HR.out HCT LR.out w
          rw [← hV] at he1
          have HEQ := Lib.hid (show ∀ w, (binOp .eql 61 (.agg (nums .u8 C).toArray) (.agg (nums .u8 r).toArray)).run Tryd.prog w = .ok (.bool VV) w from fun w => by simp [binOp, Op.equal, Op.maxDepth, he1])
          have HEG := Lib.hid (show ∀ w, (eqGuard .eql 61 (.tmp 54) (.tmp 56) (.agg (nums .u8 C).toArray) (.agg (nums .u8 r).toArray)).run Tryd.prog w = .ok () w from fun w => run_eqGuard_agg w _ _ _ _ _ _ (by kernel_rfl))
          have HEQ0 := Lib.hid (show ∀ w, (binOp .eql 37 (.int .i64 0) (.int .i64 0)).run Tryd.prog w = .ok (.bool true) w from fun w => by go_simp)
          have HFA := Lib.hid (show ∀ w, (Instr.fieldAt 63 (.pointer (some ⟨gn, 0, none⟩)) 0).run Tryd.prog w = .ok (.pointer (some ⟨gn, 0, none⟩)) w from fun w => by go_simp)
          have HNR := Lib.hid (node_root HN3.out)
          have HGN := Lib.hid (show gn < w3.heap.size from HN3.out.lt)
          obtain ⟨E, hE⟩ : ∃ E, pathK s n = E := ⟨_, rfl⟩
          rw [hE] at HEL HCM
          clear hC hV he1 HCL HCT HPL HPE hE HN3
          go_upto_region 4 with (fail)
          refine wp_region_free 13 (fun q V w' => Below w3.heap.size w3 w' ∧ Val q V 0 (.int .i64 0) ∧ Val q V 1 (.bool true) ∧ Val q V 2 (.bool true) ∧ Val q V 3 (.agg (nums .u8 M).toArray) ∧ Val q V 4 (.int .i64 i) ∧ Val q V 5 (.string ⟨s.toArray⟩) ∧ Val q V 6 (.string ⟨(s.drop 560).toArray⟩) ∧ RowE q V 7 n E w' ∧ Val q V 8 (.agg (nums .u8 C).toArray) ∧ Val q V 9 (.pointer (some ⟨gn, 0, none⟩)) ∧ Val q V 10 (.agg (nums .u8 r).toArray) ∧ Val q V 11 (.bool VV) ∧ Val q V 12 (.bool VV)) (fun _ => undef) (by kernel_rfl) (by kernel_rfl) (by kernel_rfl) (by simp only [List.take_succ_cons, List.take_zero, putAll, Act.put, List.setIfInBounds_toArray, List.set_cons_zero, List.set_cons_succ]) ⟨(Below.refl _ _).drew, Val.none, Val.none, Val.none, Val.none, Val.none, Val.none, Val.none, RowE.none, Val.none, Val.none, Val.none, Val.none, Val.none⟩ ?_ ?_
          · simp only [List.take_succ_cons, List.take_zero, putAll, Nat.zero_add, Nat.reduceAdd, Act.put, List.setIfInBounds_toArray, List.set_cons_zero, List.set_cons_succ]
            refine FreeSteps.cons ?_ (FreeSteps.cons ?_ (FreeSteps.cons ?_ (FreeSteps.cons ?_ (FreeSteps.cons ?_ (FreeSteps.cons ?_ (FreeSteps.cons ?_ (FreeSteps.cons ?_ (FreeSteps.cons ?_ (FreeSteps.cons ?_ (FreeSteps.cons ?_ (FreeSteps.cons ?_ (FreeSteps.cons ?_ FreeSteps.nil))))))))))))
            · refine FreeStep.fresh rfl ?_
              rintro q V wq hr hu ⟨hB, h0, h1, h2, h3, h4, h5, h6, h7, h8, h9, h10, h11, h12⟩ K hK
              exact op_move (.tmp 10) rfl (.int .i64 0) rfl (hK _ _ ⟨hB, .same, h1.ne (by decide), h2.ne (by decide), h3.ne (by decide), h4.ne (by decide), h5.ne (by decide), h6.ne (by decide), h7.ne (by decide) (Below.refl _ _), h8.ne (by decide), h9.ne (by decide), h10.ne (by decide), h11.ne (by decide), h12.ne (by decide)⟩)
            · refine FreeStep.fresh rfl ?_
              rintro q V wq hr hu ⟨hB, h0, h1, h2, h3, h4, h5, h6, h7, h8, h9, h10, h11, h12⟩ K hK
              exact op_eqlv 37 37 (.tmp 46) (.const (.int .i64 0)) rfl (.int .i64 0) (.int .i64 0) true (h0 (hr { on := 0, ground := .data } (by simp) rfl)) rfl (fun w => rfl) HEQ0.out (hK _ _ ⟨hB, h0.ne (by decide), .same, h2.ne (by decide), h3.ne (by decide), h4.ne (by decide), h5.ne (by decide), h6.ne (by decide), h7.ne (by decide) (Below.refl _ _), h8.ne (by decide), h9.ne (by decide), h10.ne (by decide), h11.ne (by decide), h12.ne (by decide)⟩)
            · refine FreeStep.fresh rfl ?_
              rintro q V wq hr hu ⟨hB, h0, h1, h2, h3, h4, h5, h6, h7, h8, h9, h10, h11, h12⟩ K hK
              exact op_move (.tmp 47) rfl (.bool true) (h1 (hr { on := 1, ground := .data } (by simp) rfl)) (hK _ _ ⟨hB, h0.ne (by decide), h1.ne (by decide), .same, h3.ne (by decide), h4.ne (by decide), h5.ne (by decide), h6.ne (by decide), h7.ne (by decide) (Below.refl _ _), h8.ne (by decide), h9.ne (by decide), h10.ne (by decide), h11.ne (by decide), h12.ne (by decide)⟩)
            · refine FreeStep.asked 2 true rfl (fun V hV => by show (match some (V 2) with | some (.bool b) => some b | _ => none) = some true; rw [hV]) (fun q V wq hr hI => by obtain ⟨hB, h0, h1, h2, h3, h4, h5, h6, h7, h8, h9, h10, h11, h12⟩ := hI; exact h2 (hr { on := 2, ground := .guard } (by simp) rfl)) ?_
              rintro q V wq hr hu ⟨hB, h0, h1, h2, h3, h4, h5, h6, h7, h8, h9, h10, h11, h12⟩ K hK
              exact op_load_nums 61 (.tmp 9) rfl gy .u8 M 61 _ rfl (HY3.out.below hB) Tryd.underlying61 rfl HIM.out (hK _ _ ⟨hB, h0.ne (by decide), h1.ne (by decide), h2.ne (by decide), .same, h4.ne (by decide), h5.ne (by decide), h6.ne (by decide), h7.ne (by decide) (Below.refl _ _), h8.ne (by decide), h9.ne (by decide), h10.ne (by decide), h11.ne (by decide), h12.ne (by decide)⟩)
            · refine FreeStep.asked 2 true rfl (fun V hV => by show (match some (V 2) with | some (.bool b) => some b | _ => none) = some true; rw [hV]) (fun q V wq hr hI => by obtain ⟨hB, h0, h1, h2, h3, h4, h5, h6, h7, h8, h9, h10, h11, h12⟩ := hI; exact h2 (hr { on := 2, ground := .guard } (by simp) rfl)) ?_
              rintro q V wq hr hu ⟨hB, h0, h1, h2, h3, h4, h5, h6, h7, h8, h9, h10, h11, h12⟩ K hK
              exact op_move (.tmp 1) rfl (.int .i64 i) rfl (hK _ _ ⟨hB, h0.ne (by decide), h1.ne (by decide), h2.ne (by decide), h3.ne (by decide), .same, h5.ne (by decide), h6.ne (by decide), h7.ne (by decide) (Below.refl _ _), h8.ne (by decide), h9.ne (by decide), h10.ne (by decide), h11.ne (by decide), h12.ne (by decide)⟩)
            · refine FreeStep.asked 2 true rfl (fun V hV => by show (match some (V 2) with | some (.bool b) => some b | _ => none) = some true; rw [hV]) (fun q V wq hr hI => by obtain ⟨hB, h0, h1, h2, h3, h4, h5, h6, h7, h8, h9, h10, h11, h12⟩ := hI; exact h2 (hr { on := 2, ground := .guard } (by simp) rfl)) ?_
              rintro q V wq hr hu ⟨hB, h0, h1, h2, h3, h4, h5, h6, h7, h8, h9, h10, h11, h12⟩ K hK
              exact op_move (.tmp 3) rfl (.string ⟨s.toArray⟩) rfl (hK _ _ ⟨hB, h0.ne (by decide), h1.ne (by decide), h2.ne (by decide), h3.ne (by decide), h4.ne (by decide), .same, h6.ne (by decide), h7.ne (by decide) (Below.refl _ _), h8.ne (by decide), h9.ne (by decide), h10.ne (by decide), h11.ne (by decide), h12.ne (by decide)⟩)
            · refine FreeStep.asked 2 true rfl (fun V hV => by show (match some (V 2) with | some (.bool b) => some b | _ => none) = some true; rw [hV]) (fun q V wq hr hI => by obtain ⟨hB, h0, h1, h2, h3, h4, h5, h6, h7, h8, h9, h10, h11, h12⟩ := hI; exact h2 (hr { on := 2, ground := .guard } (by simp) rfl)) ?_
              rintro q V wq hr hu ⟨hB, h0, h1, h2, h3, h4, h5, h6, h7, h8, h9, h10, h11, h12⟩ K hK
              exact op_slice_tail 9 (.tmp 51) 560 rfl s (h5 (hr { on := 5, ground := .data } (by simp) rfl)) Tryd.underlying9 HSL.out (hK _ _ ⟨hB, h0.ne (by decide), h1.ne (by decide), h2.ne (by decide), h3.ne (by decide), h4.ne (by decide), h5.ne (by decide), .same, h7.ne (by decide) (Below.refl _ _), h8.ne (by decide), h9.ne (by decide), h10.ne (by decide), h11.ne (by decide), h12.ne (by decide)⟩)
            · refine FreeStep.asked 2 true rfl (fun V hV => by show (match some (V 2) with | some (.bool b) => some b | _ => none) = some true; rw [hV]) (fun q V wq hr hI => by obtain ⟨hB, h0, h1, h2, h3, h4, h5, h6, h7, h8, h9, h10, h11, h12⟩ := hI; exact h2 (hr { on := 2, ground := .guard } (by simp) rfl)) ?_
              rintro q V wq hr hu ⟨hB, h0, h1, h2, h3, h4, h5, h6, h7, h8, h9, h10, h11, h12⟩ K hK
              refine op_call Tryd.func78 rfl rfl rfl [.string ⟨(s.drop 560).toArray⟩] (cons_eq (h6 (hr { on := 6, ground := .data } (by simp) rfl)) rfl) (HEL.out wq) ?_
              rintro e w' ⟨⟨ao, co, rfl, hE⟩, hb⟩
              exact ⟨_, rfl, hK _ _ ⟨hB.trans (hb.mono hB.size), h0.ne (by decide), h1.ne (by decide), h2.ne (by decide), h3.ne (by decide), h4.ne (by decide), h5.ne (by decide), h6.ne (by decide), .same hE, h8.ne (by decide), h9.ne (by decide), h10.ne (by decide), h11.ne (by decide), h12.ne (by decide)⟩⟩
            · refine FreeStep.asked 2 true rfl (fun V hV => by show (match some (V 2) with | some (.bool b) => some b | _ => none) = some true; rw [hV]) (fun q V wq hr hI => by obtain ⟨hB, h0, h1, h2, h3, h4, h5, h6, h7, h8, h9, h10, h11, h12⟩ := hI; exact h2 (hr { on := 2, ground := .guard } (by simp) rfl)) ?_
              rintro q V wq hr hu ⟨hB, h0, h1, h2, h3, h4, h5, h6, h7, h8, h9, h10, h11, h12⟩ K hK
              obtain ⟨ao, co, hv7, hE7⟩ := (h7 (hr { on := 7, ground := .data } (by simp) rfl))
              refine op_call Tryd.func77 rfl rfl rfl [.agg (nums .u8 M).toArray, .int .i64 i, .slice ao n co] (cons_eq (h3 (hr { on := 3, ground := .data } (by simp) rfl)) (cons_eq (h4 (hr { on := 4, ground := .data } (by simp) rfl)) (cons_eq hv7 rfl))) (HCM.out ao co wq hE7 (HK3.out.below hB)) ?_
              rintro e w' ⟨rfl, hb⟩
              exact ⟨_, rfl, hK _ _ ⟨hB.trans (hb.mono hB.size), h0.ne (by decide), h1.ne (by decide), h2.ne (by decide), h3.ne (by decide), h4.ne (by decide), h5.ne (by decide), h6.ne (by decide), h7.ne (by decide) hb, .same, h9.ne (by decide), h10.ne (by decide), h11.ne (by decide), h12.ne (by decide)⟩⟩
            · refine FreeStep.asked 2 true rfl (fun V hV => by show (match some (V 2) with | some (.bool b) => some b | _ => none) = some true; rw [hV]) (fun q V wq hr hI => by obtain ⟨hB, h0, h1, h2, h3, h4, h5, h6, h7, h8, h9, h10, h11, h12⟩ := hI; exact h2 (hr { on := 2, ground := .guard } (by simp) rfl)) ?_
              rintro q V wq hr hu ⟨hB, h0, h1, h2, h3, h4, h5, h6, h7, h8, h9, h10, h11, h12⟩ K hK
              exact op_field0 63 (.tmp 4) rfl gn rfl HFA.out (hK _ _ ⟨hB, h0.ne (by decide), h1.ne (by decide), h2.ne (by decide), h3.ne (by decide), h4.ne (by decide), h5.ne (by decide), h6.ne (by decide), h7.ne (by decide) (Below.refl _ _), h8.ne (by decide), .same, h10.ne (by decide), h11.ne (by decide), h12.ne (by decide)⟩)
            · refine FreeStep.asked 2 true rfl (fun V hV => by show (match some (V 2) with | some (.bool b) => some b | _ => none) = some true; rw [hV]) (fun q V wq hr hI => by obtain ⟨hB, h0, h1, h2, h3, h4, h5, h6, h7, h8, h9, h10, h11, h12⟩ := hI; exact h2 (hr { on := 2, ground := .guard } (by simp) rfl)) ?_
              rintro q V wq hr hu ⟨hB, h0, h1, h2, h3, h4, h5, h6, h7, h8, h9, h10, h11, h12⟩ K hK
              exact op_load_elem 61 (.tmp 55) rfl gn 0 r _ (h9 (hr { on := 9, ground := .data } (by simp) rfl)) (rangeAt_below HNR.out hB HGN.out) Tryd.underlying61 rfl HIR.out (hK _ _ ⟨hB, h0.ne (by decide), h1.ne (by decide), h2.ne (by decide), h3.ne (by decide), h4.ne (by decide), h5.ne (by decide), h6.ne (by decide), h7.ne (by decide) (Below.refl _ _), h8.ne (by decide), h9.ne (by decide), .same, h11.ne (by decide), h12.ne (by decide)⟩)
            · refine FreeStep.asked 2 true rfl (fun V hV => by show (match some (V 2) with | some (.bool b) => some b | _ => none) = some true; rw [hV]) (fun q V wq hr hI => by obtain ⟨hB, h0, h1, h2, h3, h4, h5, h6, h7, h8, h9, h10, h11, h12⟩ := hI; exact h2 (hr { on := 2, ground := .guard } (by simp) rfl)) ?_
              rintro q V wq hr hu ⟨hB, h0, h1, h2, h3, h4, h5, h6, h7, h8, h9, h10, h11, h12⟩ K hK
              exact op_eqlv 61 61 (.tmp 54) (.tmp 56) rfl (.agg (nums .u8 C).toArray) (.agg (nums .u8 r).toArray) VV (h8 (hr { on := 8, ground := .data } (by simp) rfl)) (h10 (hr { on := 10, ground := .data } (by simp) rfl)) HEG.out HEQ.out (hK _ _ ⟨hB, h0.ne (by decide), h1.ne (by decide), h2.ne (by decide), h3.ne (by decide), h4.ne (by decide), h5.ne (by decide), h6.ne (by decide), h7.ne (by decide) (Below.refl _ _), h8.ne (by decide), h9.ne (by decide), h10.ne (by decide), .same, h12.ne (by decide)⟩)
            · refine FreeStep.fresh rfl ?_
              rintro q V wq hr hu ⟨hB, h0, h1, h2, h3, h4, h5, h6, h7, h8, h9, h10, h11, h12⟩ K hK
              exact op_pick_yes (.tmp 48) (.tmp 57) (.const (.bool false)) rfl (h2 (hr { on := 2, ground := .data } (by simp) rfl)) (.bool VV) (h11 (hr { on := 11, ground := .data } (by simp) rfl)) (hK _ _ ⟨hB, h0.ne (by decide), h1.ne (by decide), h2.ne (by decide), h3.ne (by decide), h4.ne (by decide), h5.ne (by decide), h6.ne (by decide), h7.ne (by decide) (Below.refl _ _), h8.ne (by decide), h9.ne (by decide), h10.ne (by decide), h11.ne (by decide), .same⟩)
          rintro q V w4 hall ⟨hB, h0, h1, h2, h3, h4, h5, h6, h7, h8, h9, h10, h11, h12⟩
          have v0 := h0 (hall 0 (by decide))
          have v1 := h1 (hall 1 (by decide))
          have v2 := h2 (hall 2 (by decide))
          have v3 := h3 (hall 3 (by decide))
          have v4 := h4 (hall 4 (by decide))
          have v5 := h5 (hall 5 (by decide))
          have v6 := h6 (hall 6 (by decide))
          have v8 := h8 (hall 8 (by decide))
          have v9 := h9 (hall 9 (by decide))
          have v10 := h10 (hall 10 (by decide))
          have v11 := h11 (hall 11 (by decide))
          have v12 := h12 (hall 12 (by decide))
          obtain ⟨ao7, co7, v7, _⟩ := h7 (hall 7 (by decide))
          simp only [List.take_succ_cons, List.take_zero, List.drop_succ_cons, List.drop_zero, putAll, Nat.zero_add, Nat.reduceAdd, v0, v1, v2, v3, v4, v5, v6, v7, v8, v9, v10, v11, v12, Act.put, List.setIfInBounds_toArray, List.set_cons_zero, List.set_cons_succ]
          have HB4 := Lib.hid (HB3.out.trans (hB.mono HB3.out.size))
          clear h0 h1 h2 h3 h4 h5 h6 h7 h8 h9 h10 h11 h12 v0 v1 v2 v3 v4 v5 v6 v7 v8 v9 v10 v11 v12 hall hB
          go_wp2_with fail
          go_ret
          exact ⟨rfl, HB4.out⟩
        · have hl2 : ((s.length : Int) != 560 + 16 * (n : Int)) = true := by simp; omega
          go_wp2_with fail
          go_ret
          exact ⟨by rw [HNOT.out (fun h => hl h.2.2)]; rfl, HB1.out⟩
  · have HD := Shut.mk (decide_eq_false hv)
    rw [HWZ.out (by omega)] at HNOT
    clear HIS
    go_wp2_with fail
    refine (dev_valid h w1 false HD.out).mono ?_
    rintro e w2 ⟨rfl, rfl⟩
    go_wp2_with fail
    go_ret
    exact ⟨by rw [HNOT.out (by omega)]; rfl, HB1.out⟩
end Go.Proofs.YtpfhlhcnmeodbaaDoor
namespace Go.Proofs.YtpfhlhcnmeodbaaDoor
open Go.RowKit Go.BigFrame
set_option maxHeartbeats 4000000 in
set_option maxRecDepth 100000 in
theorem dev_check16 (a : AuthN) (ao : Option Addr) (N : List NodeN) (c : Nat) (w : World) (hn0 : -9223372036854775808 ≤ a.node) (hn : a.node ≤ 9223372036854775807) (hi0 : -9223372036854775808 ≤ a.seq) (hi : a.seq ≤ 9223372036854775807) (hh : IdOk a.hash) (hs : a.sig.length ≤ 1000000)
    (hN : ∀ x ∈ N, x.Ok) (_hl : N.length ≤ 140737488351232) (hat : NodesAt ao N w) (hk : KAt w) :
    Calls Tryd.prog 20 #[.agg (autV a), .slice ao N.length c] w fun r w' => r = .returned (.bool (checkN a N)) ∧ Below w.heap.size w w' := by
  have hx1 : Cells w.heap.size 26 (autV a) (w.alloc (.cells (autV a) 26)) := heap_alloc_new w _
  have HX1 := Lib.hid hx1
  have HB := Lib.hid (show Below w.heap.size w (w.alloc (.cells (autV a) 26)) from (Below.refl _ _).alloc (Nat.le_refl _) _)
  have HK := Lib.hid (hk.below HB.out)
  have HAT := Lib.hid (RAt.below hat HB.out)
  have HH := Lib.hid hh
  have HNN := Lib.hid hN
  have HSG := Lib.hid hs
  have HCK := Shut.mk (show checkN a N = if 0 ≤ a.node ∧ a.node < N.length ∧ 1 ≤ a.seq then verK (N.getD a.node.toNat ⟨[], 0⟩).root (N.getD a.node.toNat ⟨[], 0⟩).height (a.seq - 1) (wordB a.node a.seq a.hash) a.sig else false from rfl)
  have HG := Lib.hid (show ∀ x, N[a.node.toNat]? = some x → N.getD a.node.toNat ⟨[], 0⟩ = x from fun x hx => by rw [List.getD_eq_getElem?_getD, hx]; rfl)
  obtain ⟨n, hn2⟩ : ∃ n, a.node = n := ⟨_, rfl⟩
  obtain ⟨i, hi2⟩ : ∃ i, a.seq = i := ⟨_, rfl⟩
  obtain ⟨m, hm⟩ : ∃ m, N.length = m := ⟨_, rfl⟩
  have HM := Shut.mk hm
  rw [hn2] at hn hn0 HG HCK
  rw [hi2] at hi hi0 HCK
  rw [hm] at _hl HCK ⊢
  obtain ⟨c0, c1, c2, c3⟩ := aut_cells HH.out HX1.out
  rw [hn2] at c0
  rw [hi2] at c1
  clear hx1 hh hn2 hi2 hat hN hm hs hk
  go_enter Tryd.func20, Tryd.ntmps20
  go_upto_region 1 with (fail)
  obtain ⟨w1, hw1⟩ : ∃ x, x = w.alloc (.cells (autV a) 26) := ⟨_, rfl⟩
  rw [← hw1] at HX1 HB HAT HK c0 c1 c2 c3 ⊢
  clear hw1
  by_cases h1 : n < 0
  · have HF := Shut.mk (show checkN a N = false by rw [HCK.out, if_neg (by omega)])
    go_wp2_with fail
    go_ret
    exact ⟨by rw [HF.out]; rfl, HB.out⟩
  · by_cases h2 : n ≥ m
    · have HF := Shut.mk (show checkN a N = false by rw [HCK.out, if_neg (by omega)])
      go_wp2_with fail
      go_ret
      exact ⟨by rw [HF.out]; rfl, HB.out⟩
    · by_cases h3 : i ≤ 0
      · have HF := Shut.mk (show checkN a N = false by rw [HCK.out, if_neg (by omega)])
        go_wp2_with fail
        go_ret
        exact ⟨by rw [HF.out]; rfl, HB.out⟩
      · obtain ⟨k, rfl⟩ := Int.eq_ofNat_of_zero_le (show 0 ≤ n by omega)
        have hkm : k < m := by omega
        obtain ⟨x, hx⟩ : ∃ x, N[k]? = some x := ⟨_, List.getElem?_eq_getElem (by rw [HM.out]; exact hkm)⟩
        have HXO := Lib.hid (HNN.out x (List.mem_of_getElem? hx))
        have HF := Shut.mk (show checkN a N = verK x.root x.height (i - 1) (wordB k i a.hash) a.sig by
          rw [HCK.out, if_pos (by omega), HG.out x (by rw [Int.toNat_natCast]; exact hx)])
        obtain ⟨b, ob, rfl, hbl, hr⟩ := RAt.getM HAT.out hx
        have HIX := Lib.hid (index_node b ob m c k hkm)
        have HSN := Lib.hid (show (Tryd.prog.info? 63).map (·.size) = some (nodL x).length by rw [nodL_len HXO.out]; exact Tryd.sizeNo)
        have HSI := Lib.hid (show (Tryd.prog.info? 24).map (·.size) = some (nums .u8 a.hash).length by rw [nums_len, HH.out.1]; exact Tryd.sizeI)
        have hg := HX1.out.lt
        have HC0 := Lib.hid (fun (w' : World) (q : SS w1 w') => (q.1.cell (p := ⟨w.heap.size, 0, none⟩) hg).trans c0)
        have HC1 := Lib.hid (fun (w' : World) (q : SS w1 w') => (q.1.cell (p := ⟨w.heap.size, 1, none⟩) hg).trans c1)
        have HC2 := Lib.hid (fun (w' : World) (q : SS w1 w') => rangeAt_belowI c2 q.1 hg)
        have HC3 := Lib.hid (fun (w' : World) (q : SS w1 w') => (q.1.cell (p := ⟨w.heap.size, 34, none⟩) hg).trans c3)
        have HC4 := Lib.hid (fun (w' : World) (q : SS w1 w') => rangeAt_belowI hr q.1 hbl)
        have HI := Lib.hid (fun w' => dev_index16 i w' (by omega) hi)
        have HW := Lib.hid (fun w' => dev_word16 k i a.hash (by omega) hn (by omega) hi HH.out w')
        go_upto_region 3 with (fail)
        clear c0 c1 c2 c3 hg hx hr hbl HG HCK HAT
        refine wp_region_class_tail (SS w1) 17 (by kernel_rfl) (by kernel_rfl) (SS.start HK.out) ?_
        simp only [List.take_succ_cons, List.take_zero, List.drop_succ_cons, List.drop_zero]
        repeat (first
          | (go_big_quiet_want; refine quiet_load_cell 3 _ rfl ⟨w.heap.size, 0, none⟩ _ rfl HC0.out Tryd.isAgg3 ?_; go_big_quiet_on; simp only [Act.put, List.setIfInBounds_toArray, List.set_cons_zero, List.set_cons_succ])
          | (go_big_quiet_want; refine quiet_load_cell 3 _ rfl ⟨w.heap.size, 1, none⟩ _ rfl HC1.out Tryd.isAgg3 ?_; go_big_quiet_on; simp only [Act.put, List.setIfInBounds_toArray, List.set_cons_zero, List.set_cons_succ])
          | (go_big_quiet_want; refine quiet_load_cell 9 _ rfl ⟨w.heap.size, 34, none⟩ _ rfl HC3.out Tryd.isAgg9 ?_; go_big_quiet_on; simp only [Act.put, List.setIfInBounds_toArray, List.set_cons_zero, List.set_cons_succ])
          | (go_big_quiet_want; refine quiet_load_row 24 _ rfl w.heap.size 2 (nums .u8 a.hash) _ rfl HC2.out Tryd.underlying24 rfl HSI.out ?_; go_big_quiet_on; simp only [Act.put, List.setIfInBounds_toArray, List.set_cons_zero, List.set_cons_succ])
          | (go_big_quiet_want; refine quiet_load_row 63 _ rfl b (ob + k * 17) (nodL x) _ rfl HC4.out Tryd.underlying63 rfl HSN.out ?_; go_big_quiet_on; simp only [Act.put, List.setIfInBounds_toArray, List.set_cons_zero, List.set_cons_succ])
          | (go_big_quiet_want; refine quiet_indexAt 45 _ _ rfl _ _ _ rfl rfl HIX.out ?_; go_big_quiet_on; simp only [Act.put, List.setIfInBounds_toArray, List.set_cons_zero, List.set_cons_succ])
          | go_big_quiet_step ((intro hs'; first
              | (go_at_call 17; exact (HW.out _).mono fun e w' h => ⟨h.1, hs'.next h.2⟩)
              | (go_at_call 46; exact (HI.out _).mono fun e w' h => ⟨h.1, hs'.next h.2⟩)
              | rfl)))
        refine wpQuiet_nil ?_
        intro w2 hs2
        have HB2 := Lib.hid (HB.out.trans (hs2.1.mono HB.out.size))
        have HK2 := Lib.hid hs2.2
        clear hs2 HX1 HB HK HI HC0 HC1 HC2 HC3 HC4 HW
        go_wp2_with fail
        refine (dev_verify6 x.root x.height (i - 1) (wordB k i a.hash) a.sig w2 HXO.out.root.1 HXO.out.root.2 HXO.out.low HXO.out.high (by omega) (by omega) (Nat.le_trans (wordB_len hn hi HH.out) (by decide)) HSG.out HK2.out).mono ?_
        rintro e w3 ⟨rfl, hb⟩
        have HB3 := Lib.hid (HB2.out.trans (hb.mono HB2.out.size))
        clear hb HB2
        go_wp2_with fail
        go_ret
        exact ⟨by rw [HF.out]; rfl, HB3.out⟩
end Go.Proofs.YtpfhlhcnmeodbaaDoor
