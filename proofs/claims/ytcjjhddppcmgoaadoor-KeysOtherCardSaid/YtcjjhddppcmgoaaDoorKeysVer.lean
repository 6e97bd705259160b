/-
  The document's Verify.
-/
import Derived.Test.YtcjjhddppcmgoaaDoorKeysRef
namespace Go.Proofs.YtcjjhddppcmgoaaDoor
open Go.RowKit Go.BigFrame

/-- What others know of keys. -/
def nodeV (root : List Nat) (h : Int) : Array Value := (nums .u8 root ++ [Value.int .i64 h]).toArray
theorem node_height {g : Nat} {t : TypeId} {root : List Nat} {h : Int} {w : World} (hr : root.length = 16) (hc : Cells g t (nodeV root h) w) : w.cell? ⟨g, 16, none⟩ = some (.int .i64 h) := by
  rw [Lib.cell_of_heap hc, nodeV, List.getElem?_toArray, List.getElem?_append_right (by rw [nums_len, hr]; decide), nums_len, hr]
  rfl
theorem node_root {g : Nat} {t : TypeId} {root : List Nat} {h : Int} {w : World} (hc : Cells g t (nodeV root h) w) : w.rangeAt g 0 (nums .u8 root) := by
  intro j v hj
  rw [Nat.zero_add, Lib.cell_of_heap hc, nodeV, List.getElem?_toArray, List.getElem?_append_left (List.getElem?_eq_some_iff.1 hj).1, hj]
/-- An operation that yields one value and leaves the world. -/
theorem op_val {P : Program} {o : Oper} {a : Act} {w : World} {K : Act → World → Prop} {Q : Exit → Act → World → Prop} (v : Value) (h : o.quietAt P a (fun w' => w' = w) w v) (hk : K (a.put o.dst v) w) : OpWp P o a w K Q :=
  ⟨Oper.wp_of_quiet (C := fun w' => w' = w) (K := fun a' => a' = a.put o.dst v) rfl (fun a' w' hw ha => by subst hw; subst ha; exact hk) ⟨v, fun w' hw => by subst hw; exact h, rfl⟩⟩

/-- A text's head. -/
theorem op_slice_head {P : Program} {o : Oper} {a : Act} {w : World} {K : Act → World → Prop} {Q : Exit → Act → World → Prop} (ty : TypeId) (x : Operand) (n : Nat) (ho : o.op = .slice ty x none (some (.const (.int .i64 n))) none) (s : List UInt8) (hx : a.eval x = .string ⟨s.toArray⟩)
    (hu : P.underlying ty = some .string) (hn : n ≤ s.length) (h : K (a.put o.dst (.string ⟨(s.take n).toArray⟩)) w) : OpWp P o a w K Q := by
  have hr := run_slice_string_h (P := P) w ty ⟨s.toArray⟩ hu .i64 (n : Int) (by omega) (by show (n : Int) ≤ ((⟨s.toArray⟩ : ByteArray).size : Int); simp [ByteArray.size]; omega)
  rw [Int.toNat_natCast, extract_head] at hr
  have hr2 := (run_sliceAt_string (P := P) w ty (.string ⟨s.toArray⟩) none (some (.int .i64 (n : Int))) none hu).trans hr
  refine ⟨?_⟩
  unfold Oper.wp execOp
  simp only [ho, Option.map_some, Option.map_none, show a.eval (.const (.int .i64 (n : Int))) = .int .i64 (n : Int) from rfl, hx, Sem.run_bind, Sem.run_pure, hr2, Result.andThen_ok]
  exact h
/-- The first field's address. -/
theorem op_field0 {P : Program} {o : Oper} {a : Act} {w : World} {K : Act → World → Prop} {Q : Exit → Act → World → Prop} (ty : TypeId) (x : Operand) (ho : o.op = .fieldAddr ty x 0) (g : Nat) (hx : a.eval x = .pointer (some ⟨g, 0, none⟩))
    (hr : ∀ w, (Instr.fieldAt ty (.pointer (some ⟨g, 0, none⟩)) 0).run P w = .ok (.pointer (some ⟨g, 0, none⟩)) w) (h : K (a.put o.dst (.pointer (some ⟨g, 0, none⟩))) w) : OpWp P o a w K Q := by
  refine ⟨?_⟩
  unfold Oper.wp execOp
  simp only [ho, hx, Sem.run_bind, Sem.run_pure, hr, Result.andThen_ok]
  exact h

set_option maxHeartbeats 2000000 in
set_option maxRecDepth 100000 in
theorem ref_verify6 (r : List Nat) (h i : Int) (t s : List UInt8) (w : World) (hr : r.length = 16) (lr : ∀ y ∈ r, y < 256) (h0 : -9223372036854775808 ≤ h) (h1 : h ≤ 9223372036854775807) (i0 : -9223372036854775808 ≤ i) (i1 : i ≤ 9223372036854775807)
    (ht : t.length ≤ 1000000) (_hs : s.length ≤ 1000000) :
    Calls Tryd.prog 21 #[.agg (nodeV r h), .int .i64 i, .string ⟨t.toArray⟩, .string ⟨s.toArray⟩] w fun e w' => e = .returned (.bool (verK r h i t s)) ∧ Below w.heap.size w w' := by
  have HR := Lib.hid hr
  have LR := Lib.hid lr
  have HNOT := Shut.mk (fun hb => verK_not (root := r) (h := h) (i := i) (text := t) (sig := s) hb)
  have HIS := Shut.mk (fun hb => verK_is (root := r) (h := h) (i := i) (text := t) (sig := s) hb)
  have hwle := wideN_le h
  have hwz := wideN_zero (h := h)
  have HWI := Lib.hid (fun w => ref_wide h w)
  obtain ⟨W, hW⟩ : ∃ W, wideN h = W := ⟨_, rfl⟩
  obtain ⟨V, hV⟩ : ∃ V, verK r h i t s = V := ⟨_, rfl⟩
  rw [hW] at HNOT HIS HWI hwle hwz
  rw [hV] at HNOT HIS ⊢
  clear hr lr hW hV
  go_enter Tryd.func21, Tryd.ntmps21
  go_upto_region 1 with (fail)
  obtain ⟨w1, hw1⟩ : ∃ x', x' = w.alloc (.cells (nodeV r h) 33) := ⟨_, rfl⟩
  rw [← hw1]
  have hb1 : Below w.heap.size w w1 := by rw [hw1]; exact (Below.refl _ _).alloc (Nat.le_refl _) _
  have hn1 : Cells w.heap.size 33 (nodeV r h) w1 := by rw [hw1]; exact heap_alloc_new w _
  have HN1 := Lib.hid hn1
  have HB1 := Lib.hid hb1
  have hc1 := node_height HR.out hn1
  obtain ⟨gn, hgn⟩ : ∃ g, g = w.heap.size := ⟨_, rfl⟩
  rw [← hgn] at HN1 hc1 ⊢
  clear hb1 hn1 hw1 hgn
  by_cases hi : i < 0
  · go_wp2_with fail
    go_ret
    exact ⟨by rw [HNOT.out (by omega)]; rfl, HB1.out⟩
  · go_wp2_with fail
    refine (HWI.out w1).mono ?_
    rintro e w2 ⟨rfl, rfl⟩
    by_cases hiw : (W : Int) ≤ i
    · go_wp2_with fail
      go_ret
      exact ⟨by rw [HNOT.out (by omega)]; rfl, HB1.out⟩
    · have hok : ¬ (h < 1 ∨ 8 < h) := fun hb => by have := hwz hb; omega
      obtain ⟨n, rfl⟩ : ∃ n : Nat, h = n := ⟨h.toNat, by omega⟩
      have hn8 : n ≤ 8 := by omega
      clear hwz hok
      rw [Int.toNat_natCast] at HNOT HIS
      by_cases hl : s.length = 560 + 16 * n
      · have hl2 : ((s.length : Int) != 560 + 16 * (n : Int)) = false := by simp; omega
        have HSL := Lib.hid (show 560 ≤ s.length by omega)
        have HFA := Lib.hid (show ∀ w, (Instr.fieldAt 33 (.pointer (some ⟨gn, 0, none⟩)) 0).run Tryd.prog w = .ok (.pointer (some ⟨gn, 0, none⟩)) w from fun w => by go_simp)
        have HNR := Lib.hid (node_root HN1.out)
        have HGN := Lib.hid (show gn < w2.heap.size from HN1.out.lt)
        have HIR := Lib.hid (show (Tryd.prog.info? 31).map (·.size) = some r.length by rw [HR.out]; exact Tryd.infoE)
        have HDG := Lib.hid (fun w => ref_digest6 r i t w HR.out LR.out i1 ht)
        have hd1 := digK_len r i t
        have hd2 := digK_lt r i t
        obtain ⟨D, hD⟩ : ∃ D, digK r i t = D := ⟨_, rfl⟩
        rw [hD] at HDG hd1 hd2 HIS
        have HMT := Lib.hid (fun w => ref_meet (s.take 560) i D w (by rw [List.length_take]; omega) i0 i1 hd1 hd2)
        rw [meetN_take] at HMT
        have hm1 := keyN_len (rowE (metF s i D) 35) i
        have hm2 := keyN_lt (rowE (metF s i D) 35) i
        rw [show keyN (rowE (metF s i D) 35) i = meetN s i D from rfl] at hm1 hm2
        obtain ⟨M, hM⟩ : ∃ M, meetN s i D = M := ⟨_, rfl⟩
        rw [hM] at HMT hm1 hm2 HIS
        have HIM := Lib.hid (show (Tryd.prog.info? 31).map (·.size) = some M.length by rw [hm1]; exact Tryd.infoE)
        have HLM := Lib.hid (show (List.replicate 16 0).length = M.length by rw [hm1]; rfl)
        have HM1 := Lib.hid hm1
        have HM2 := Lib.hid hm2
        clear hD hM hd1 hd2 hm1 hm2
        go_upto_region 3 with (fail)
        have HAL := Lib.hid (show ∀ w : World, (Instr.alloc 31 true (.tuple #[])).run Tryd.prog w = .ok (.pointer (some ⟨w.heap.size, 0, none⟩)) (w.alloc (.cells (nums .u8 (List.replicate 16 0)).toArray 31)) from fun w => by kernel_rfl)
        refine wp_region_free 14 (fun q V w' => Below w2.heap.size w2 w' ∧ Val q V 0 (.string ⟨s.toArray⟩) ∧ Val q V 1 (.string ⟨(s.take 560).toArray⟩) ∧ Val q V 2 (.int .i64 i) ∧ Val q V 3 (.pointer (some ⟨gn, 0, none⟩)) ∧ Val q V 4 (.agg (nums .u8 r).toArray) ∧ Val q V 5 (.int .i64 i) ∧ Val q V 6 (.string ⟨t.toArray⟩) ∧ Val q V 7 (.agg (nums .u8 D).toArray) ∧ Val q V 8 (.tuple #[.agg (nums .u8 M).toArray, .bool true]) ∧ Val q V 9 (.tuple #[.agg (nums .u8 M).toArray, .bool true]) ∧ Val q V 10 (.agg (nums .u8 M).toArray) ∧ Val q V 11 (.bool true) ∧ Put q V w2.heap.size 12 13 31 .u8 (List.replicate 16 0) M w' ∧ Late q 12 13) (fun _ => undef) (by kernel_rfl) (by kernel_rfl) (by kernel_rfl) (by simp only [List.take_succ_cons, List.take_zero, putAll, Act.put, List.setIfInBounds_toArray, List.set_cons_zero, List.set_cons_succ]) ⟨(Below.refl _ _).drew, Val.none, Val.none, Val.none, Val.none, Val.none, Val.none, Val.none, Val.none, Val.none, Val.none, Val.none, Val.none, Put.none, Late.none⟩ ?_ ?_
        · simp only [List.take_succ_cons, List.take_zero, putAll, Nat.zero_add, Nat.reduceAdd, Act.put, List.setIfInBounds_toArray, List.set_cons_zero, List.set_cons_succ]
          refine FreeSteps.cons ?_ (FreeSteps.cons ?_ (FreeSteps.cons ?_ (FreeSteps.cons ?_ (FreeSteps.cons ?_ (FreeSteps.cons ?_ (FreeSteps.cons ?_ (FreeSteps.cons ?_ (FreeSteps.cons ?_ (FreeSteps.cons ?_ (FreeSteps.cons ?_ (FreeSteps.cons ?_ (FreeSteps.cons ?_ (FreeSteps.cons ?_ (FreeSteps.nil))))))))))))))
          all_goals (refine FreeStep.fresh rfl ?_; rintro q V wq hr hu ⟨hB, h0, h1, h2, h3, h4, h5, h6, h7, h8, h9, h10, h11, hp, hl⟩ K hK)
          · exact op_move (.tmp 3) rfl (.string ⟨s.toArray⟩) rfl (hK _ _ ⟨hB, .same, h1.ne (by decide), h2.ne (by decide), h3.ne (by decide), h4.ne (by decide), h5.ne (by decide), h6.ne (by decide), h7.ne (by decide), h8.ne (by decide), h9.ne (by decide), h10.ne (by decide), h11.ne (by decide), hp.ne (by decide) (by decide) (Below.refl _ _), hl.ne (by decide)⟩)
          · exact op_slice_head 9 (.tmp 34) 560 rfl s (h0 (hr { on := 0, ground := .data } (by simp) rfl)) Tryd.underlying9 HSL.out (hK _ _ ⟨hB, h0.ne (by decide), .same, h2.ne (by decide), h3.ne (by decide), h4.ne (by decide), h5.ne (by decide), h6.ne (by decide), h7.ne (by decide), h8.ne (by decide), h9.ne (by decide), h10.ne (by decide), h11.ne (by decide), hp.ne (by decide) (by decide) (Below.refl _ _), hl.ne (by decide)⟩)
          · exact op_move (.tmp 1) rfl (.int .i64 i) rfl (hK _ _ ⟨hB, h0.ne (by decide), h1.ne (by decide), .same, h3.ne (by decide), h4.ne (by decide), h5.ne (by decide), h6.ne (by decide), h7.ne (by decide), h8.ne (by decide), h9.ne (by decide), h10.ne (by decide), h11.ne (by decide), hp.ne (by decide) (by decide) (Below.refl _ _), hl.ne (by decide)⟩)
          · exact op_field0 33 (.tmp 4) rfl gn rfl HFA.out (hK _ _ ⟨hB, h0.ne (by decide), h1.ne (by decide), h2.ne (by decide), .same, h4.ne (by decide), h5.ne (by decide), h6.ne (by decide), h7.ne (by decide), h8.ne (by decide), h9.ne (by decide), h10.ne (by decide), h11.ne (by decide), hp.ne (by decide) (by decide) (Below.refl _ _), hl.ne (by decide)⟩)
          · exact op_load_elem 31 (.tmp 37) rfl gn 0 r _ (h3 (hr { on := 3, ground := .data } (by simp) rfl)) (rangeAt_below HNR.out hB HGN.out) Tryd.underlying31 rfl HIR.out (hK _ _ ⟨hB, h0.ne (by decide), h1.ne (by decide), h2.ne (by decide), h3.ne (by decide), .same, h5.ne (by decide), h6.ne (by decide), h7.ne (by decide), h8.ne (by decide), h9.ne (by decide), h10.ne (by decide), h11.ne (by decide), hp.ne (by decide) (by decide) (Below.refl _ _), hl.ne (by decide)⟩)
          · exact op_move (.tmp 1) rfl (.int .i64 i) rfl (hK _ _ ⟨hB, h0.ne (by decide), h1.ne (by decide), h2.ne (by decide), h3.ne (by decide), h4.ne (by decide), .same, h6.ne (by decide), h7.ne (by decide), h8.ne (by decide), h9.ne (by decide), h10.ne (by decide), h11.ne (by decide), hp.ne (by decide) (by decide) (Below.refl _ _), hl.ne (by decide)⟩)
          · exact op_move (.tmp 2) rfl (.string ⟨t.toArray⟩) rfl (hK _ _ ⟨hB, h0.ne (by decide), h1.ne (by decide), h2.ne (by decide), h3.ne (by decide), h4.ne (by decide), h5.ne (by decide), .same, h7.ne (by decide), h8.ne (by decide), h9.ne (by decide), h10.ne (by decide), h11.ne (by decide), hp.ne (by decide) (by decide) (Below.refl _ _), hl.ne (by decide)⟩)
          · refine op_call Tryd.func17 rfl rfl rfl [.agg (nums .u8 r).toArray, .int .i64 i, .string ⟨t.toArray⟩] (cons_eq (h4 (hr { on := 4, ground := .data } (by simp) rfl)) (cons_eq (h5 (hr { on := 5, ground := .data } (by simp) rfl)) (cons_eq (h6 (hr { on := 6, ground := .data } (by simp) rfl)) rfl))) (HDG.out wq) ?_
            rintro e w' ⟨rfl, hb⟩
            exact ⟨_, rfl, hK _ _ ⟨hB.trans (hb.mono hB.size), h0.ne (by decide), h1.ne (by decide), h2.ne (by decide), h3.ne (by decide), h4.ne (by decide), h5.ne (by decide), h6.ne (by decide), .same, h8.ne (by decide), h9.ne (by decide), h10.ne (by decide), h11.ne (by decide), hp.ne (by decide) (by decide) hb, hl.ne (by decide)⟩⟩
          · refine op_call Tryd.func42 rfl rfl rfl [.string ⟨(s.take 560).toArray⟩, .int .i64 i, .agg (nums .u8 D).toArray] (cons_eq (h1 (hr { on := 1, ground := .data } (by simp) rfl)) (cons_eq (h2 (hr { on := 2, ground := .data } (by simp) rfl)) (cons_eq (h7 (hr { on := 7, ground := .data } (by simp) rfl)) rfl))) (HMT.out wq) ?_
            rintro e w' ⟨rfl, hb⟩
            exact ⟨_, rfl, hK _ _ ⟨hB.trans (hb.mono hB.size), h0.ne (by decide), h1.ne (by decide), h2.ne (by decide), h3.ne (by decide), h4.ne (by decide), h5.ne (by decide), h6.ne (by decide), h7.ne (by decide), .same, h9.ne (by decide), h10.ne (by decide), h11.ne (by decide), hp.ne (by decide) (by decide) hb, hl.ne (by decide)⟩⟩
          · exact op_move (.tmp 42) rfl _ (h8 (hr { on := 8, ground := .data } (by simp) rfl)) (hK _ _ ⟨hB, h0.ne (by decide), h1.ne (by decide), h2.ne (by decide), h3.ne (by decide), h4.ne (by decide), h5.ne (by decide), h6.ne (by decide), h7.ne (by decide), h8.ne (by decide), .same, h10.ne (by decide), h11.ne (by decide), hp.ne (by decide) (by decide) (Below.refl _ _), hl.ne (by decide)⟩)
          · exact op_extract (.tmp 33) 0 rfl _ _ (h9 (hr { on := 9, ground := .data } (by simp) rfl)) rfl (hK _ _ ⟨hB, h0.ne (by decide), h1.ne (by decide), h2.ne (by decide), h3.ne (by decide), h4.ne (by decide), h5.ne (by decide), h6.ne (by decide), h7.ne (by decide), h8.ne (by decide), h9.ne (by decide), .same, h11.ne (by decide), hp.ne (by decide) (by decide) (Below.refl _ _), hl.ne (by decide)⟩)
          · exact op_extract (.tmp 33) 1 rfl _ _ (h9 (hr { on := 9, ground := .data } (by simp) rfl)) rfl (hK _ _ ⟨hB, h0.ne (by decide), h1.ne (by decide), h2.ne (by decide), h3.ne (by decide), h4.ne (by decide), h5.ne (by decide), h6.ne (by decide), h7.ne (by decide), h8.ne (by decide), h9.ne (by decide), h10.ne (by decide), .same, hp.ne (by decide) (by decide) (Below.refl _ _), hl.ne (by decide)⟩)
          · have hb : Below wq.heap.size wq (wq.alloc (.cells (nums .u8 (List.replicate 16 0)).toArray 31)) := (Below.refl _ _).alloc (Nat.le_refl _) _
            exact op_alloc 31 rfl _ HAL.out (hK _ _ ⟨hB.trans (hb.mono hB.size), h0.ne (by decide), h1.ne (by decide), h2.ne (by decide), h3.ne (by decide), h4.ne (by decide), h5.ne (by decide), h6.ne (by decide), h7.ne (by decide), h8.ne (by decide), h9.ne (by decide), h10.ne (by decide), h11.ne (by decide), .made hB.size (hl.not hu) (by decide), hl.ne (by decide)⟩)
          · have h12 : q 12 = true := hr { on := 12, ground := .data } (by simp) rfl
            obtain ⟨g, hg0, hg1, hg2⟩ := hp h12
            rw [if_neg (by rw [hu]; decide)] at hg2
            refine op_store_nums 31 (.tmp 9) (.tmp 43) rfl g .u8 _ M 31 hg0 (h10 (hr { on := 10, ground := .data } (by simp) rfl)) hg2 HIM.out HLM.out ?_
            intro w' hx hb
            exact hK _ _ ⟨But.toBelow hB hb hg1 hB.size, h0.ne (by decide), h1.ne (by decide), h2.ne (by decide), h3.ne (by decide), h4.ne (by decide), h5.ne (by decide), h6.ne (by decide), h7.ne (by decide), h8.ne (by decide), h9.ne (by decide), h10.ne (by decide), h11.ne (by decide), .stored hg0 hg1 (by decide) hx, .same h12⟩
        rintro q V w3 hall ⟨hB, h0, h1, h2, h3, h4, h5, h6, h7, h8, h9, h10, h11, hp, hl⟩
        have v0 := h0 (hall 0 (by decide))
        have v1 := h1 (hall 1 (by decide))
        have v2 := h2 (hall 2 (by decide))
        have v3 := h3 (hall 3 (by decide))
        have v4 := h4 (hall 4 (by decide))
        have v5 := h5 (hall 5 (by decide))
        have v6 := h6 (hall 6 (by decide))
        have v7 := h7 (hall 7 (by decide))
        have v8 := h8 (hall 8 (by decide))
        have v9 := h9 (hall 9 (by decide))
        have v10 := h10 (hall 10 (by decide))
        have v11 := h11 (hall 11 (by decide))
        obtain ⟨gy, v12, hgy, hy⟩ := hp (hall 12 (by decide))
        rw [if_pos (hall 13 (by decide))] at hy
        simp only [List.take_succ_cons, List.take_zero, List.drop_succ_cons, List.drop_zero, putAll, Nat.zero_add, Nat.reduceAdd, v0, v1, v2, v3, v4, v5, v6, v7, v8, v9, v10, v11, v12, Act.put, List.setIfInBounds_toArray, List.set_cons_zero, List.set_cons_succ]
        clear h0 h1 h2 h3 h4 h5 h6 h7 h8 h9 h10 h11 hp hl v0 v1 v2 v3 v4 v5 v6 v7 v8 v9 v10 v11 v12 hall HAL
        have HN3 := Lib.hid (HN1.out.below hB)
        have HY3 := Lib.hid hy
        have HB3 := Lib.hid (HB1.out.trans (hB.mono HB1.out.size))
        have HHT := Lib.hid (fun w (h : Cells gn 33 (nodeV r n) w) => node_height HR.out h)
        clear hB hy hgy HNR HGN HDG HMT HFA HN1 HB1 hc1
        go_wp2_with fail
        go_loopw [11, 12] (fun v c wq => ∃ k : Nat, k ≤ n ∧ c = .int .i64 k ∧ OwnE w3.heap.size 31 v (pathK s k) wq ∧ Below w3.heap.size w3 wq) (fun _ c _ => n - (intOf c).toNat)
        case atStart => exact ⟨0, by omega, rfl, OwnE.nil _ _ _, Below.refl _ _⟩
        case round =>
          obtain ⟨k, hk, rfl, ho, hb⟩ := hrel
          have HO := Lib.hid ho
          have HB := Lib.hid hb
          have HNr := Lib.hid (HN3.out.below hb)
          have HYr := Lib.hid (HY3.out.below hb)
          have hcr := HHT.out _ HNr.out
          by_cases hlk : k < n
          · have hlk2 : (k : Int) < (n : Int) := by omega
            obtain ⟨wk, hwk⟩ : ∃ x, x = wr := ⟨_, rfl⟩
            subst hwk
            have HPN := Shut.mk (pathK_next s k)
            have HPL := Shut.mk (pathK_len s k)
            have hpl : (byteNs (part s (35 + k))).length = 16 := by rw [byteNs, List.length_map, part, List.length_take, List.length_drop]; omega
            have HPT := Lib.hid (byteNs_part_lt s (35 + k))
            have HPA := Lib.hid (fun q (hq : q < 16) => fun w => by
              have h := run_part_at (P := Tryd.prog) 9 Tryd.underlying9 s (35 + k) q hq (by omega) w
              rw [show (16 * ((35 + k : Nat) : Int) + (q : Int)) = 560 + 16 * (k : Int) + (q : Int) by omega] at h
              exact h)
            obtain ⟨PE, hPE⟩ : ∃ PE, byteNs (part s (35 + k)) = PE := ⟨_, rfl⟩
            obtain ⟨PA, hPA⟩ : ∃ PA, pathK s k = PA := ⟨_, rfl⟩
            rw [hPE] at HPN hpl HPT HPA
            rw [hPA] at HPN HPL HO
            have HPE := Lib.hid hpl
            clear ho hb hPE hPA hpl
            go_upto_region 9 with (fail)
            change Code.wp _ _ _ _ (wk.alloc (.cells (nums .u8 (List.replicate 16 0)).toArray 31))
            obtain ⟨w5, hw5⟩ : ∃ x', x' = wk.alloc (.cells (nums .u8 (List.replicate 16 0)).toArray 31) := ⟨_, rfl⟩
            rw [← hw5]
            have hb5 : Below wk.heap.size wk w5 := by rw [hw5]; exact (Below.refl _ _).alloc (Nat.le_refl _) _
            have HX5 := Lib.hid (show Blk wk.heap.size 31 .u8 (List.replicate 16 0) w5 by rw [hw5]; exact heap_alloc_new wk _)
            have HB5 := Lib.hid (hb5)
            obtain ⟨ge, hge⟩ : ∃ g, g = wk.heap.size := ⟨_, rfl⟩
            rw [← hge] at HX5 ⊢
            have HGE := Lib.hid (show wk.heap.size ≤ ge by omega)
            clear hw5 hb5 hge hcr
            go_wp2_with fail
            go_loopw [51] (fun c wq => ∃ q : Nat, q ≤ 16 ∧ c = .int .i64 q ∧ Blk ge 31 .u8 (cutP PE q) wq ∧ But ge w5 wq) (fun c _ => 16 - (intOf c).toNat)
            case atStart => exact ⟨0, by omega, rfl, HX5.out, But.refl _ _⟩
            case round =>
              clear HX5
              obtain ⟨q, hq, rfl, hx, hbq⟩ := hrel
              have HC := Lib.hid hx
              have HBQ := Lib.hid hbq
              clear hx hbq
              by_cases hlq : q < 16
              · have hix := HPA.out q hlq
                have c2 := HC.out.cell q (by rw [cutP_len (by rw [HPE.out]; exact Nat.le_refl _) hq]; exact hlq)
                have f2 := HC.out.frozen q
                have HS3 := Lib.hid (HC.out.set q (PE.getD q 0))
                rw [cutP_set (by rw [HPE.out]; exact Nat.le_refl _) hlq] at HS3
                generalize (cutP PE q).getD q 0 = z at c2
                generalize PE.getD q 0 = v at hix HS3
                go_wp2_with fail
                exact ⟨⟨q + 1, by omega, by go_num, HS3.out, HBQ.out.setCell _ _⟩, by simp [intOf]; omega⟩
              · obtain rfl : q = 16 := by omega
                rw [cutP_full, List.take_of_length_le (by rw [HPE.out]; exact Nat.le_refl _)] at HC
                have HX4 := Lib.hid (show Blk ge 31 .u8 PE wr from HC.out)
                have hb4 : Below wk.heap.size wk wr := But.toBelow HB5.out HBQ.out HGE.out HB5.out.size
                have HO4 := Lib.hid (HO.out.below hb4)
                have HB4 := Lib.hid (HB.out.trans (hb4.mono HB.out.size))
                have HW4 := Lib.hid (show w3.heap.size ≤ wr.heap.size from HB4.out.size)
                have HIP := Lib.hid (show (Tryd.prog.info? 31).map (·.size) = some PE.length by rw [HPE.out]; exact Tryd.infoE)
                clear HC HBQ HPA HO HB HB5 hb4
                go_wp2_with (first
                  | (refine wpList_load_nums rfl 31 _ rfl ge .u8 _ 31 _ rfl HX4.out Tryd.underlying31 rfl HIP.out ?_)
                  | (refine wpList_build_elem rfl 36 31 (.tmp 65) rfl PE rfl HPE.out Tryd.underlying36 Tryd.infoE16 ?_))
                intro w6 hl6 hb6
                have HL6 := Lib.hid (blk_news hl6.out)
                have HO6 := Lib.hid (HO4.out.below hb6.out)
                have HB6 := Lib.hid (HB4.out.trans (hb6.out.mono HB4.out.size))
                have HW6 := Lib.hid (show w3.heap.size ≤ w6.heap.size from Nat.le_trans HW4.out hb6.out.size)
                clear hl6 hb6 HO4 HB4 HX4
                go_wp2_with (at_builtin; refine wpList_append_elems rfl (.tmp 64) (.tmp 66) 36 31 rfl w3.heap.size _ rfl Tryd.underlying36 Tryd.infoE16 _ PA [PE] (Elems.one HPE.out HPT.out) ⟨wr.heap.size, 0, none⟩ 1 1 rfl rfl HO6.out rfl (by rw [flatE_one]; exact HL6.out) (by rw [HPL.out]; simp; omega) HW6.out ?_)
                intro v7 w7 ho7 hb7
                have HB7 := Lib.hid (HB6.out.trans hb7.out)
                clear hb7 HB6
                go_wp2_with fail
                exact ⟨⟨k + 1, by omega, by go_num, by rw [HPN.out]; exact ho7.out, HB7.out⟩, by simp [intOf]; omega⟩
          · obtain rfl : k = n := by omega
            have hnw : ¬ (k : Int) < (k : Int) := by omega
            obtain ⟨ao, co, rfl⟩ := ho.form
            have HPE := Lib.hid (pathK_elems (sig := s) (h := k) (by omega))
            have HEP := Lib.hid (ho.at HPE.out)
            have HPL := Lib.hid (pathK_len s k)
            have HCL := climbN_len HM1.out i (pathK s k) k
            have HCT := climbN_lt HM2.out i (pathK s k) k
            have hV := HIS.out ⟨by omega, by omega, hl⟩
            have HCM := Lib.hid (fun w hE => ref_climb M i (pathK s k) ao co w HM1.out HM2.out i0 i1 HPE.out hE (by rw [HPL.out]; omega))
            rw [pathK_len] at HCM ⊢
            obtain ⟨C, hC⟩ : ∃ C, climbN M i (pathK s k) k = C := ⟨_, rfl⟩
            rw [hC] at HCL HCT hV HCM
            have e1 := fun w => equal_elem C r HCL HR.out HCT LR.out w
            rw [← hV] at e1
            have HNR := Lib.hid (node_root HNr.out)
            have HGN := Lib.hid (show gn < wr.heap.size from HNr.out.lt)
            have HBr := Lib.hid (HB3.out.trans (hb.mono HB3.out.size))
            clear ho hb HCL HCT hV hC hl2
            go_upto_region 15 with (fail)
            refine wp_region_class (fun w' => Below wr.heap.size wr w') (by kernel_rfl) (by kernel_rfl) (Below.refl _ _).drew ?_
            repeat (first
              | (go_big_quiet_want; refine quiet_load_nums 31 _ rfl gy .u8 M 31 _ rfl (fun w' h => HYr.out.below h) Tryd.underlying31 rfl HIM.out ?_; go_big_quiet_on; simp only [Act.put, List.setIfInBounds_toArray, List.set_cons_zero, List.set_cons_succ])
              | (go_big_quiet_want; refine quiet_load_elem 31 _ rfl gn 0 r _ rfl (fun w' h => rangeAt_below HNR.out h HGN.out) Tryd.underlying31 rfl HIR.out ?_; go_big_quiet_on; simp only [Act.put, List.setIfInBounds_toArray, List.set_cons_zero, List.set_cons_succ])
              | go_big_quiet_step ((intro hs'; first
                  | rfl
                  | (go_at_call 43; exact (HCM.out _ (HEP.out.below hs')).mono fun e w' h => ⟨h.1, hs'.trans (h.2.mono hs'.size)⟩))))
            refine wpQuiet_nil ?_
            intro w9 hs9
            have HB9 := Lib.hid (HBr.out.trans (hs9.mono HBr.out.size))
            clear hs9 e1
            go_wp2_with fail
            go_ret
            exact ⟨rfl, HB9.out⟩
      · have hl2 : ((s.length : Int) != 560 + 16 * (n : Int)) = true := by simp; omega
        go_wp2_with fail
        go_ret
        exact ⟨by rw [HNOT.out (fun h => hl h.2.2)]; rfl, HB1.out⟩
end Go.Proofs.YtcjjhddppcmgoaaDoor
