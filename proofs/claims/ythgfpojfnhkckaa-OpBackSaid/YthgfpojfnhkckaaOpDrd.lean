/-
  The developers' ReadDraft. Written by op/gen/gen_drd.py.
-/
import Derived.Test.YthgfpojfnhkckaaOpTxt
import Derived.Test.YthgfpojfnhkckaaOpNewR
import Derived.Test.YthgfpojfnhkckaaSplit
namespace Go.Proofs.Ythgfpojfnhkckaa
open Go.RowKit Go.BigFrame

def DrD (o : Option DraftN) : Value := .tuple #[.agg (draftV (o.getD zeroD)), .int .i64 (if o.isSome then 0 else 4)]
theorem readD_parts4 {s : List UInt8} (h : ∀ k key val r, splitB s = some [k, key, val, r] → False) : readD s = none := by
  unfold readD
  split
  · rename_i k key val r hs
    exact (h k key val r hs).elim
  · rfl
theorem built_draft3 (k : Int) (a b : List UInt8) : Try.prog.built 25 [(0, .int .i64 k), (1, .string ⟨a.toArray⟩), (2, .string ⟨b.toArray⟩)] = some (draftV ⟨k, a, b, zeroI⟩) := by
  rw [draft_fill]
  refine (fill_lay placeD 0 0 1 _ _ [] [.int .i64 0] (.string ⟨#[]⟩ :: .string ⟨#[]⟩ :: nums .u8 zeroI) [.int .i64 k] rfl rfl rfl rfl rfl).trans ?_
  refine (fill_lay placeD 1 1 1 _ _ [.int .i64 k] [.string ⟨#[]⟩] (.string ⟨#[]⟩ :: nums .u8 zeroI) [.string ⟨a.toArray⟩] rfl rfl rfl rfl rfl).trans ?_
  refine (fill_lay placeD 2 2 1 (.string ⟨b.toArray⟩) [] [.int .i64 k, .string ⟨a.toArray⟩] [.string ⟨#[]⟩] (nums .u8 zeroI) [.string ⟨b.toArray⟩] rfl rfl rfl rfl rfl).trans ?_
  rw [fill_end]
  rfl
/-- The Ref laid over zeros. -/
theorem draft_lay (k : Int) (a b r : List UInt8) : layV (draftL ⟨k, a, b, zeroI⟩) 3 (nums .u8 (byteNs (r.take 32))) = draftL ⟨k, a, b, refP r⟩ := by
  have hl : (nums .u8 (byteNs (r.take 32))).length = min 32 r.length := by rw [nums_len, byteNs_len, List.length_take]
  have hd : ∀ l : List Nat, draftL ⟨k, a, b, l⟩ = [.int .i64 k, .string ⟨a.toArray⟩, .string ⟨b.toArray⟩] ++ nums .u8 l := fun l => rfl
  have h0 : (draftL ⟨k, a, b, zeroI⟩).length = 35 := draftL_len rfl
  refine List.ext_getElem? fun j => ?_
  rw [layV_get _ _ _ _ (by rw [hl, h0]; omega), hl, hd, hd]
  by_cases h3 : j < 3
  · rw [if_neg (by omega), List.getElem?_append_left (by simpa using h3), List.getElem?_append_left (by simpa using h3)]
  · rw [List.getElem?_append_right (by simpa using Nat.le_of_not_lt h3), List.getElem?_append_right (by simpa using Nat.le_of_not_lt h3)]
    have e : ∀ x y : List Nat, nums .u8 (x ++ y) = nums .u8 x ++ nums .u8 y := fun x y => by simp [nums]
    rw [show ([Value.int .i64 k, .string ⟨a.toArray⟩, .string ⟨b.toArray⟩] : List Value).length = 3 from rfl, refP, e]
    by_cases hj : j < 3 + min 32 r.length
    · rw [if_pos (by omega), List.getElem?_append_left (by rw [hl]; omega)]
    · rw [if_neg (by omega), List.getElem?_append_right (by rw [hl]; omega), hl]
      simp only [nums, zeroI, List.getElem?_map, List.getElem?_drop, List.getElem?_replicate]
      by_cases h35 : j - 3 < 32
      · rw [if_pos h35, if_pos (by omega)]
      · rw [if_neg h35, if_neg (by omega)]
set_option maxHeartbeats 4000000 in
set_option maxRecDepth 100000 in
theorem dev_readDraft (s : List UInt8) (w : World) (hm : s.length ≤ 1000000) :
    Calls Try.prog 15 #[.string ⟨s.toArray⟩] w fun e w' => e = .returned (DrD (readD s)) ∧ Below w.heap.size w w' := by
  have hsz : (Try.prog.info? 25).map (·.size) = some (draftV zeroD).size := Try.sizeD
  have HS := Lib.hid hsz
  have HM := Lib.hid hm
  clear hsz hm
  go_enter Try.func15, Try.ntmps15
  go_upto_region 1 with (fail)
  have hx : Cells w.heap.size 25 (draftV zeroD) (w.alloc (.cells (draftV zeroD) 25)) := heap_alloc_new w _
  have hb : Below w.heap.size w (w.alloc (.cells (draftV zeroD) 25)) := (Below.refl _ _).alloc (Nat.le_refl _) _
  rw [zeroD_lit] at hx hb
  obtain ⟨w1, hw1⟩ : ∃ x, x = w.alloc (.cells (draftV zeroD) 25) := ⟨_, rfl⟩
  rw [zeroD_lit] at hw1
  rw [← hw1] at hx hb ⊢
  rw [← zeroD_lit] at hx
  have HX := Lib.hid hx
  have HB := Lib.hid hb
  clear hw1 hx hb
  go_wp2_with fail
  obtain ⟨q, hq⟩ : ∃ q, splitB s = q := ⟨_, rfl⟩
  have HL := Shut.mk hq
  have hcc := split_any s w1 (by have := HM.out; omega)
  rw [hq] at hcc
  clear hq
  refine hcc.mono ?_
  rintro e w2 ⟨⟨v, rfl, ho⟩, hb⟩
  obtain ⟨ao, cq, rfl⟩ := ho.form
  have HX2 := Lib.hid (HX.out.below hb)
  have HB2 := Lib.hid (HB.out.trans (hb.mono HB.out.size))
  have HSA := Lib.hid (strsAt_own ho)
  clear hcc ho hb HX HB
  cases q with
  | none =>
    simp only [Option.getD_none, List.length_nil, Option.isSome_none]
    have HR := Shut.mk (readD_parts4 (s := s) (by intro k key val r h; rw [HL.out] at h; cases h))
    clear HSA
    go_upto_region 3 with (fail)
    refine wp_region_lit ?_
    refine wpList_build_val rfl 25 #[] rfl [] _ (by simp) built_draft0 ?_
    simp only [Act.put, List.setIfInBounds_toArray, List.set_cons_zero, List.set_cons_succ]
    refine wpList_store_cells rfl 25 _ _ rfl rfl w.heap.size (draftV zeroD) (draftV zeroD) 25 rfl rfl HX2.out HS.out rfl (draftV_all zeroD) ?_
    intro wf hc hb
    have HXF := Lib.hid hc.out
    have HBF := Lib.hid (show Below w.heap.size w wf from But.toBelow HB2.out hb.out (Nat.le_refl _) HB2.out.size)
    clear hc hb HX2 HB2
    go_wp2_with fail
    refine bodyPost_ret (results_cells_tmp rfl _ _ w.heap.size (draftV zeroD) 25 _ _ rfl rfl HXF.out Try.underlying25 rfl HS.out) rfl ?_
    exact ⟨by rw [HR.out]; rfl, HBF.out⟩
  | some l =>
    simp only [Option.getD_some, Option.isSome_some] at HSA ⊢
    obtain ⟨n, hn⟩ : ∃ n, l.length = n := ⟨_, rfl⟩
    by_cases h4 : n = 4
    · rw [hn]
      subst h4
      obtain ⟨k, key, val, r, rfl⟩ : ∃ a b c d, l = [a, b, c, d] := by
        match l, hn with
        | [a, b, c, d], _ => exact ⟨a, b, c, d, rfl⟩
      have HLR := Lib.hid (split_parts HL.out)
      obtain ⟨g, og, rfl, hg, c0, c1, c2, c3⟩ := strs4 HSA.out
      have HG3 := Lib.hid hg
      have HD0 := Lib.hid c0
      have HD1 := Lib.hid c1
      have HD2 := Lib.hid c2
      have HD3 := Lib.hid c3
      clear hn HSA hg c0 c1 c2 c3
      go_upto_region 4 with (fail)
      obtain ⟨x, hxn⟩ : ∃ x, openN k = x := ⟨_, rfl⟩
      have HXN := Shut.mk hxn
      obtain ⟨d0, hd0⟩ : ∃ d : DraftN, d = ⟨(x : Int), key, val, zeroI⟩ := ⟨_, rfl⟩
      have HDD := Shut.mk hd0
      have hdr : d0.ref.length = 32 := by rw [hd0]; rfl
      have HDR := Lib.hid hdr
      have HKL := Lib.hid (show k.length ≤ 262144 from HLR.out k (by simp))
      have HI0 := Lib.hid (show ∀ w, (Instr.indexAt 59 (.slice (some ⟨g, og, none⟩) 4 cq) (.int .i64 0)).run Try.prog w = .ok (.pointer (some ⟨g, og, none⟩)) w from fun w => by go_simp)
      have HI1 := Lib.hid (show ∀ w, (Instr.indexAt 59 (.slice (some ⟨g, og, none⟩) 4 cq) (.int .i64 1)).run Try.prog w = .ok (.pointer (some ⟨g, og + 1, none⟩)) w from fun w => by go_simp)
      have HI2 := Lib.hid (show ∀ w, (Instr.indexAt 59 (.slice (some ⟨g, og, none⟩) 4 cq) (.int .i64 2)).run Try.prog w = .ok (.pointer (some ⟨g, og + 2, none⟩)) w from fun w => by go_simp)
      have HAL := Lib.hid (show ∀ w : World, (Instr.alloc 25 true (.tuple #[])).run Try.prog w = .ok (.pointer (some ⟨w.heap.size, 0, none⟩)) (w.alloc (.cells (draftV zeroD) 25)) from fun w => by kernel_rfl)
      have HBD := Lib.hid (show ∀ w, (Instr.build 25 ([(0, .int .i64 (x : Int)), (1, .string ⟨key.toArray⟩), (2, .string ⟨val.toArray⟩)] : List (Nat × Value)).toArray).run Try.prog w = .ok (.agg (draftV d0)) w from fun w => by
        have hb := built_draft3 (x : Int) key val
        rw [← HDD.out] at hb
        exact run_build w 25 _ _ hb)
      have HDZ := Lib.hid (show Below w2.heap.size w2 w2.drew from (Below.refl _ _).drew)
      have HSD := Lib.hid (show (Try.prog.info? 25).map (·.size) = some (draftV d0).size by rw [draftV_size HDR.out]; exact Try.sizeD)
      have HSZ := Lib.hid (show (draftV zeroD).size = (draftV d0).size by rw [draftV_size HDR.out]; rfl)
      clear hd0 hdr hxn
      refine wp_region_free 13 (fun q V w' => Val q V 0 (.slice (some ⟨g, og, none⟩) 4 cq) ∧ Val q V 1 (.pointer (some ⟨g, og, none⟩)) ∧ Val q V 2 (.string ⟨k.toArray⟩) ∧ Val q V 4 (.int .i64 (x : Int)) ∧ Val q V 5 (.slice (some ⟨g, og, none⟩) 4 cq) ∧ Val q V 6 (.pointer (some ⟨g, og + 1, none⟩)) ∧ Val q V 7 (.string ⟨key.toArray⟩) ∧ Val q V 8 (.slice (some ⟨g, og, none⟩) 4 cq) ∧ Val q V 9 (.pointer (some ⟨g, og + 2, none⟩)) ∧ Val q V 10 (.string ⟨val.toArray⟩) ∧ Val q V 11 (.agg (draftV d0)) ∧ NewC q V w2.heap.size 12 25 (draftV zeroD) w' ∧ Below w2.heap.size w2 w' ∧ NewR q V w2.heap.size 3 4 k w') (fun _ => undef) (by kernel_rfl) (by kernel_rfl) (by kernel_rfl) (by simp only [List.take_succ_cons, List.take_zero, putAll, Act.put, List.setIfInBounds_toArray, List.set_cons_zero, List.set_cons_succ]) ⟨Val.none, Val.none, Val.none, Val.none, Val.none, Val.none, Val.none, Val.none, Val.none, Val.none, Val.none, NewC.none, HDZ.out, NewR.none⟩ ?_ ?_
      · simp only [List.take_succ_cons, List.take_zero, putAll, Nat.zero_add, Nat.reduceAdd, Act.put, List.setIfInBounds_toArray, List.set_cons_zero, List.set_cons_succ]
        refine FreeSteps.cons ?_ (FreeSteps.cons ?_ (FreeSteps.cons ?_ (FreeSteps.cons ?_ (FreeSteps.cons ?_ (FreeSteps.cons ?_ (FreeSteps.cons ?_ (FreeSteps.cons ?_ (FreeSteps.cons ?_ (FreeSteps.cons ?_ (FreeSteps.cons ?_ (FreeSteps.cons ?_ (FreeSteps.cons ?_ (FreeSteps.nil)))))))))))))
        all_goals (refine FreeStep.fresh rfl ?_; rintro q V wq hr hu ⟨h0, h1, h2, h4, h5, h6, h7, h8, h9, h10, h11, h12, hb, hR⟩ K hK)
        · exact op_move (.tmp 4) rfl _ rfl (hK _ _ ⟨.same, h1.ne (by decide), h2.ne (by decide), h4.ne (by decide), h5.ne (by decide), h6.ne (by decide), h7.ne (by decide), h8.ne (by decide), h9.ne (by decide), h10.ne (by decide), h11.ne (by decide), h12.ne (by decide) (Below.refl _ _), hb, hR.ne (by decide) (Below.refl _ _)⟩)
        · exact op_indexAt 59 (.tmp 20) (.const (.int .i64 0)) rfl _ _ _ (h0 (hr { on := 0, ground := .data } (by simp) rfl)) rfl HI0.out (hK _ _ ⟨h0.ne (by decide), .same, h2.ne (by decide), h4.ne (by decide), h5.ne (by decide), h6.ne (by decide), h7.ne (by decide), h8.ne (by decide), h9.ne (by decide), h10.ne (by decide), h11.ne (by decide), h12.ne (by decide) (Below.refl _ _), hb, hR.ne (by decide) (Below.refl _ _)⟩)
        · exact op_load_cell 9 (.tmp 21) rfl _ _ (h1 (hr { on := 1, ground := .data } (by simp) rfl)) ((hb.cell (p := ⟨g, og, none⟩) HG3.out).trans HD0.out) Try.isAgg9 (hK _ _ ⟨h0.ne (by decide), h1.ne (by decide), .same, h4.ne (by decide), h5.ne (by decide), h6.ne (by decide), h7.ne (by decide), h8.ne (by decide), h9.ne (by decide), h10.ne (by decide), h11.ne (by decide), h12.ne (by decide) (Below.refl _ _), hb, hR.ne (by decide) (Below.refl _ _)⟩)
        · refine op_call Try.func31 rfl rfl rfl [.string ⟨k.toArray⟩] (congrArg (fun x => [x]) (h2 (hr { on := 2, ground := .data } (by simp) rfl))) (open_ok k wq HKL.out) ?_
          rintro e w' ⟨rfl, hrd, hb'⟩
          exact ⟨_, rfl, (hK _ _ ⟨h0.ne (by decide), h1.ne (by decide), h2.ne (by decide), h4.ne (by decide), h5.ne (by decide), h6.ne (by decide), h7.ne (by decide), h8.ne (by decide), h9.ne (by decide), h10.ne (by decide), h11.ne (by decide), h12.ne (by decide) hb', hb.trans (hb'.mono hb.size), .same hb.size hrd⟩)⟩
        · obtain ⟨gr, hgr, hbg, hrd⟩ := hR (hr { on := 3, ground := .data } (by simp) rfl) hu
          refine op_call Try.func32 rfl rfl rfl [.pointer (some ⟨gr, 0, none⟩)] (congrArg (fun x => [x]) hgr) (rnum_any gr k false wq hrd (fun h => by cases h)) ?_
          rintro e w' ⟨rfl, hrd', hbt⟩
          have hBT : Below w2.heap.size w2 w' := But.toBelow hb hbt hbg hb.size
          have hT : ∀ g t cs, t ≠ 77 → Cells g t cs wq → Cells g t cs w' := fun g t cs ht hc => hc.but hbt (hrd.notCells hc ht)
          refine ⟨_, rfl, ?_⟩
          rw [show (rdNum k).1 = x from HXN.out]
          exact (hK _ _ ⟨h0.ne (by decide), h1.ne (by decide), h2.ne (by decide), .same, h5.ne (by decide), h6.ne (by decide), h7.ne (by decide), h8.ne (by decide), h9.ne (by decide), h10.ne (by decide), h11.ne (by decide), h12.turn (by decide) (fun g => hT g _ _ (by decide)), hBT, .used⟩)
        · exact op_move (.tmp 4) rfl _ rfl (hK _ _ ⟨h0.ne (by decide), h1.ne (by decide), h2.ne (by decide), h4.ne (by decide), .same, h6.ne (by decide), h7.ne (by decide), h8.ne (by decide), h9.ne (by decide), h10.ne (by decide), h11.ne (by decide), h12.ne (by decide) (Below.refl _ _), hb, hR.ne (by decide) (Below.refl _ _)⟩)
        · exact op_indexAt 59 (.tmp 25) (.const (.int .i64 1)) rfl _ _ _ (h5 (hr { on := 5, ground := .data } (by simp) rfl)) rfl HI1.out (hK _ _ ⟨h0.ne (by decide), h1.ne (by decide), h2.ne (by decide), h4.ne (by decide), h5.ne (by decide), .same, h7.ne (by decide), h8.ne (by decide), h9.ne (by decide), h10.ne (by decide), h11.ne (by decide), h12.ne (by decide) (Below.refl _ _), hb, hR.ne (by decide) (Below.refl _ _)⟩)
        · exact op_load_cell 9 (.tmp 26) rfl _ _ (h6 (hr { on := 6, ground := .data } (by simp) rfl)) ((hb.cell (p := ⟨g, og + 1, none⟩) HG3.out).trans HD1.out) Try.isAgg9 (hK _ _ ⟨h0.ne (by decide), h1.ne (by decide), h2.ne (by decide), h4.ne (by decide), h5.ne (by decide), h6.ne (by decide), .same, h8.ne (by decide), h9.ne (by decide), h10.ne (by decide), h11.ne (by decide), h12.ne (by decide) (Below.refl _ _), hb, hR.ne (by decide) (Below.refl _ _)⟩)
        · exact op_move (.tmp 4) rfl _ rfl (hK _ _ ⟨h0.ne (by decide), h1.ne (by decide), h2.ne (by decide), h4.ne (by decide), h5.ne (by decide), h6.ne (by decide), h7.ne (by decide), .same, h9.ne (by decide), h10.ne (by decide), h11.ne (by decide), h12.ne (by decide) (Below.refl _ _), hb, hR.ne (by decide) (Below.refl _ _)⟩)
        · exact op_indexAt 59 (.tmp 28) (.const (.int .i64 2)) rfl _ _ _ (h8 (hr { on := 8, ground := .data } (by simp) rfl)) rfl HI2.out (hK _ _ ⟨h0.ne (by decide), h1.ne (by decide), h2.ne (by decide), h4.ne (by decide), h5.ne (by decide), h6.ne (by decide), h7.ne (by decide), h8.ne (by decide), .same, h10.ne (by decide), h11.ne (by decide), h12.ne (by decide) (Below.refl _ _), hb, hR.ne (by decide) (Below.refl _ _)⟩)
        · exact op_load_cell 9 (.tmp 29) rfl _ _ (h9 (hr { on := 9, ground := .data } (by simp) rfl)) ((hb.cell (p := ⟨g, og + 2, none⟩) HG3.out).trans HD2.out) Try.isAgg9 (hK _ _ ⟨h0.ne (by decide), h1.ne (by decide), h2.ne (by decide), h4.ne (by decide), h5.ne (by decide), h6.ne (by decide), h7.ne (by decide), h8.ne (by decide), h9.ne (by decide), .same, h11.ne (by decide), h12.ne (by decide) (Below.refl _ _), hb, hR.ne (by decide) (Below.refl _ _)⟩)
        · exact op_build 25 #[(0, .tmp 24), (1, .tmp 27), (2, .tmp 30)] rfl [(0, .int .i64 (x : Int)), (1, .string ⟨key.toArray⟩), (2, .string ⟨val.toArray⟩)] (draftV d0) (by
              have v4 := (h4 (hr { on := 4, ground := .data } (by simp) rfl))
              have v7 := (h7 (hr { on := 7, ground := .data } (by simp) rfl))
              have v10 := (h10 (hr { on := 10, ground := .data } (by simp) rfl))
              rw [List.map_toArray]
              show [((0 : Nat), V 4), (1, V 7), (2, V 10)].toArray = _
              rw [v4, v7, v10]) HBD.out (hK _ _ ⟨h0.ne (by decide), h1.ne (by decide), h2.ne (by decide), h4.ne (by decide), h5.ne (by decide), h6.ne (by decide), h7.ne (by decide), h8.ne (by decide), h9.ne (by decide), h10.ne (by decide), .same, h12.ne (by decide) (Below.refl _ _), hb, hR.ne (by decide) (Below.refl _ _)⟩)
        · exact op_alloc 25 rfl (draftV zeroD) HAL.out (hK _ _ ⟨h0.ne (by decide), h1.ne (by decide), h2.ne (by decide), h4.ne (by decide), h5.ne (by decide), h6.ne (by decide), h7.ne (by decide), h8.ne (by decide), h9.ne (by decide), h10.ne (by decide), h11.ne (by decide), .same hb.size, hb.alloc hb.size _, hR.ne (by decide) ((Below.refl _ _).alloc (Nat.le_refl _) _)⟩)
      rintro q V wq hall ⟨h0, h1, h2, h4, h5, h6, h7, h8, h9, h10, h11, h12, hb, hR⟩
      have v0 := h0 (hall 0 (by decide))
      have v1 := h1 (hall 1 (by decide))
      have v2 := h2 (hall 2 (by decide))
      obtain ⟨u3, v3⟩ : ∃ v, V 3 = v := ⟨_, rfl⟩
      have v4 := h4 (hall 4 (by decide))
      have v5 := h5 (hall 5 (by decide))
      have v6 := h6 (hall 6 (by decide))
      have v7 := h7 (hall 7 (by decide))
      have v8 := h8 (hall 8 (by decide))
      have v9 := h9 (hall 9 (by decide))
      have v10 := h10 (hall 10 (by decide))
      have v11 := h11 (hall 11 (by decide))
      obtain ⟨g12, v12, hg12, hc12⟩ := h12 (hall 12 (by decide))
      simp only [List.take_succ_cons, List.take_zero, List.drop_succ_cons, List.drop_zero, putAll, Nat.zero_add, Nat.reduceAdd, v0, v1, v2, v3, v4, v5, v6, v7, v8, v9, v10, v11, v12, Act.put, List.setIfInBounds_toArray, List.set_cons_zero, List.set_cons_succ]
      clear h0 h1 h2 h4 h5 h6 h7 h8 h9 h10 h11 v0 v1 v2 v3 v4 v5 v6 v7 v8 v9 v10 v11 v12 hall
      have HG12 := Lib.hid hg12
      have HC12 := Lib.hid hc12
      have HB5 := Lib.hid hb
      have HNE := Lib.hid (show w.heap.size ≠ g12 from by have h1 := HX2.out.lt; omega)
      clear HI0 HI1 HI2 HAL HBD HDZ hg12 hc12 hb hR HD0 HD1 HD2
      refine wpList_store_cells rfl 25 (.tmp 6) (.tmp 31) rfl rfl g12 _ (draftV d0) 25 rfl rfl HC12.out HSD.out HSZ.out (draftV_all d0) ?_
      intro w5 hc hb
      have HV := Lib.hid hc.out
      have HX5 := Lib.hid ((HX2.out.below HB5.out).but hb.out HNE.out)
      have HBW := Lib.hid (HB2.out.trans ((But.toBelow HB5.out hb.out HG12.out HB5.out.size).mono HB2.out.size))
      have HGL := Lib.hid (show g < w5.heap.size from Nat.lt_of_lt_of_le HG3.out (Nat.le_trans HB5.out.size hb.out.size))
      have HGN := Lib.hid (show g ≠ g12 from by have h1 := HG3.out; have h2 := HG12.out; omega)
      have HE3 := Lib.hid (show w5.cell? ⟨g, og + 3, none⟩ = some (.string ⟨r.toArray⟩) from (World.cell?_of_block (w := wq) (a := ⟨g, og + 3, none⟩) (hb.out.block g (Nat.lt_of_lt_of_le HG3.out HB5.out.size) HGN.out)).trans ((HB5.out.cell (p := ⟨g, og + 3, none⟩) HG3.out).trans HD3.out))
      have HWG := Lib.hid (show w2.heap.size ≤ g12 from HG12.out)
      clear hc hb HC12 HB5 HX2 HSZ HD3 HG3 HG12
      obtain ⟨d, hd⟩ : ∃ d : DraftN, d = ⟨(x : Int), key, val, refP r⟩ := ⟨_, rfl⟩
      have HDE := Shut.mk hd
      have hok : IdOk d.ref := by rw [hd]; exact refP_ok r
      have HOK := Lib.hid hok
      have HSE := Lib.hid (show (Try.prog.info? 25).map (·.size) = some (draftV d).size by rw [draftV_size hok.1]; exact Try.sizeD)
      have HSY := Lib.hid (show (draftV zeroD).size = (draftV d).size by rw [draftV_size hok.1]; rfl)
      clear hd hok
      go_upto_region 5 with (fail)
      have HI3 := Lib.hid (show ∀ w, (Instr.indexAt 59 (.slice (some ⟨g, og, none⟩) 4 cq) (.int .i64 3)).run Try.prog w = .ok (.pointer (some ⟨g, og + 3, none⟩)) w from fun w => by go_simp)
      have HQ3 := Lib.hid (fun (w' : World) (q : Below w5.heap.size w5 w') => (q.cell (p := ⟨g, og + 3, none⟩) HGL.out).trans HE3.out)
      refine wp_region_class_tail (fun w' => Below w5.heap.size w5 w') 5 (by kernel_rfl) (by kernel_rfl) (Below.refl _ _).drew ?_
      simp only [List.take_succ_cons, List.take_zero, List.drop_succ_cons, List.drop_zero]
      repeat (first
        | (go_big_quiet_want; refine quiet_load_cell 9 _ rfl ⟨g, og + 3, none⟩ _ rfl HQ3.out Try.isAgg9 ?_; go_big_quiet_on; simp only [Act.put, List.setIfInBounds_toArray, List.set_cons_zero, List.set_cons_succ])
        | go_big_quiet_step ((intro hs'; rfl)))
      refine wpQuiet_nil ?_
      intro w6 hs6
      have hv6 := HV.out.below hs6
      have HX6 := Lib.hid (HX5.out.below hs6)
      have HB6 := Lib.hid (HBW.out.trans (hs6.mono HBW.out.size))
      clear hs6 HX5 HBW HI3 HQ3 HE3
      refine wpList_copy_text rfl (.tmp 33) (.tmp 36) 58 9 rfl 5 Try.underlying58 (by kernel_rfl) g12 3 32 32 r rfl rfl (fun j hj => by
        rw [hv6.at, Array.getElem?_eq_getElem (by rw [draftV_size HDR.out]; omega)]
        rfl) (fun j _ => hv6.frozen _) ?_
      have hl6 := Cells.lay (nums .u8 (byteNs (r.take 32))) (draftL d0) 3 w6 hv6
      rw [show layV (draftL d0) 3 (nums .u8 (byteNs (r.take 32))) = draftL d by rw [HDD.out, HDE.out]; exact draft_lay _ _ _ _] at hl6
      have hbt := But.cells (nums .u8 (byteNs (r.take 32))) 3 w6 (But.refl g12 w6)
      obtain ⟨w7, hw7⟩ : ∃ x, x = w6.setCells g12 3 (nums .u8 (byteNs (r.take 32))) := ⟨_, rfl⟩
      rw [← hw7] at hl6 hbt ⊢
      have HV7 := Lib.hid (show Cells g12 25 (draftV d) w7 from hl6)
      have HX7 := Lib.hid (HX6.out.but hbt HNE.out)
      have HB7 := Lib.hid (But.toBelow HB6.out hbt (Nat.le_trans HB2.out.size HWG.out) HB6.out.size)
      clear hw7 hl6 hbt hv6 HX6 HB6 HV
      simp only [Act.put, List.setIfInBounds_toArray, List.set_cons_zero, List.set_cons_succ]
      have HR0 := Shut.mk (show readD s = if GoodD d ∧ draftB d = s then some d else none by
        have h := readD_dev HL.out
        rw [devD, HXN.out, ← HDE.out] at h
        exact h)
      have hkd : d.key.length ≤ 262144 := by rw [HDE.out]; exact HLR.out key (by simp)
      have hvd : d.val.length ≤ 262144 := by rw [HDE.out]; exact HLR.out val (by simp)
      have HGD := Lib.hid (fun w' => dev_goodDraft d HOK.out (by omega) (by omega) w')
      clear hkd hvd HL HDD HDE HXN HLR HKL HDR HSD
      obtain ⟨z, hz⟩ : ∃ z, decide (GoodD d) = z := ⟨_, rfl⟩
      have HZ := Shut.mk hz
      rw [hz] at HGD
      clear hz
      go_upto_region 6 with (fail)
      go_wp2_with (refine wpList_load_cells rfl 25 _ rfl g12 (draftV d) 25 _ rfl HV7.out Try.underlying25 rfl HSE.out ?_)
      refine (HGD.out w7).mono ?_
      rintro e w8 ⟨rfl, hb⟩
      have HV8 := Lib.hid (HV7.out.below hb)
      have HX8 := Lib.hid (HX7.out.below hb)
      have HB8 := Lib.hid (HB7.out.trans (hb.mono HB7.out.size))
      clear hb HV7 HX7 HB7 HGD
      cases z with
      | false =>
        have HR := Shut.mk (HR0.out.trans (if_neg (fun h => of_decide_eq_false HZ.out h.1)))
        clear HV8
        go_upto_region 7 with (fail)
        refine wp_region_lit ?_
        refine wpList_build_val rfl 25 #[] rfl [] _ (by simp) built_draft0 ?_
        simp only [Act.put, List.setIfInBounds_toArray, List.set_cons_zero, List.set_cons_succ]
        refine wpList_store_cells rfl 25 _ _ rfl rfl w.heap.size (draftV zeroD) (draftV zeroD) 25 rfl rfl HX8.out HS.out rfl (draftV_all zeroD) ?_
        intro wf hc hb
        have HXF := Lib.hid hc.out
        have HBF := Lib.hid (show Below w.heap.size w wf from But.toBelow HB8.out hb.out (Nat.le_refl _) HB8.out.size)
        clear hc hb HX8 HB8
        go_wp2_with fail
        refine bodyPost_ret (results_cells_tmp rfl _ _ w.heap.size (draftV zeroD) 25 _ _ rfl rfl HXF.out Try.underlying25 rfl HS.out) rfl ?_
        exact ⟨by rw [HR.out]; rfl, HBF.out⟩
      | true =>
        have hgd := of_decide_eq_true HZ.out
        have HTX := Lib.hid (fun w' => dev_draftText d (hgd.fit HOK.out) w')
        obtain ⟨T, hT⟩ : ∃ T, draftB d = T := ⟨_, rfl⟩
        rw [hT] at HTX
        by_cases hts : T = s
        · have HR := Shut.mk (HR0.out.trans (if_pos ⟨hgd, hT.trans hts⟩))
          have heq : (T == s) = true := by simp [hts]
          clear hgd hT hts
          go_wp2_with (refine wpList_load_cells_want (by rfl) 25 _ rfl g12 (draftV d) 25 _ rfl HV8.out Try.underlying25 rfl HSE.out ?_)
          refine (HTX.out w8).mono ?_
          rintro e w9 ⟨rfl, hb⟩
          have HV9 := Lib.hid (HV8.out.below hb)
          have HX9 := Lib.hid (HX8.out.below hb)
          have HB9 := Lib.hid (HB8.out.trans (hb.mono HB8.out.size))
          clear hb HV8 HX8 HB8 HTX
          go_upto_region 8 with (fail)
          refine wp_region_lit ?_
          refine wpList_load_cells rfl 25 _ rfl g12 (draftV d) 25 _ rfl HV9.out Try.underlying25 rfl HSE.out ?_
          simp only [Act.put, List.setIfInBounds_toArray, List.set_cons_zero, List.set_cons_succ]
          refine wpList_store_cells rfl 25 _ _ rfl rfl w.heap.size (draftV zeroD) (draftV d) 25 rfl rfl HX9.out HSE.out HSY.out (draftV_all d) ?_
          intro w10 hc hb
          have HX10 := Lib.hid hc.out
          have HB10 := Lib.hid (show Below w.heap.size w w10 from But.toBelow HB9.out hb.out (Nat.le_refl _) HB9.out.size)
          clear hc hb HX9 HB9
          go_wp2_with fail
          refine bodyPost_ret (results_cells_tmp rfl _ _ w.heap.size (draftV d) 25 _ _ rfl rfl HX10.out Try.underlying25 rfl HSE.out) rfl ?_
          exact ⟨by rw [HR.out]; rfl, HB10.out⟩
        · have HR := Shut.mk (HR0.out.trans (if_neg (fun h => hts (hT.symm.trans h.2))))
          have heq : (T == s) = false := by simp [hts]
          clear hgd hT hts
          go_wp2_with (refine wpList_load_cells_want (by rfl) 25 _ rfl g12 (draftV d) 25 _ rfl HV8.out Try.underlying25 rfl HSE.out ?_)
          refine (HTX.out w8).mono ?_
          rintro e w9 ⟨rfl, hb⟩
          have HXA := Lib.hid (HX8.out.below hb)
          have HBA := Lib.hid (HB8.out.trans (hb.mono HB8.out.size))
          clear hb HV8 HX8 HB8 HTX
          go_upto_region 7 with (fail)
          refine wp_region_lit ?_
          refine wpList_build_val rfl 25 #[] rfl [] _ (by simp) built_draft0 ?_
          simp only [Act.put, List.setIfInBounds_toArray, List.set_cons_zero, List.set_cons_succ]
          refine wpList_store_cells rfl 25 _ _ rfl rfl w.heap.size (draftV zeroD) (draftV zeroD) 25 rfl rfl HXA.out HS.out rfl (draftV_all zeroD) ?_
          intro wf hc hb
          have HXF := Lib.hid hc.out
          have HBF := Lib.hid (show Below w.heap.size w wf from But.toBelow HBA.out hb.out (Nat.le_refl _) HBA.out.size)
          clear hc hb HXA HBA
          go_wp2_with fail
          refine bodyPost_ret (results_cells_tmp rfl _ _ w.heap.size (draftV zeroD) 25 _ _ rfl rfl HXF.out Try.underlying25 rfl HS.out) rfl ?_
          exact ⟨by rw [HR.out]; rfl, HBF.out⟩
    · have hn4 : ((n : Int) != 4) = true := by simp; omega
      have HR := Shut.mk (readD_parts4 (s := s) (by intro a b c d h; rw [HL.out] at h; simp only [Option.some.injEq] at h; subst h; exact h4 (by rw [← hn]; rfl)))
      rw [hn]
      clear HSA hn
      go_upto_region 3 with (fail)
      refine wp_region_lit ?_
      refine wpList_build_val rfl 25 #[] rfl [] _ (by simp) built_draft0 ?_
      simp only [Act.put, List.setIfInBounds_toArray, List.set_cons_zero, List.set_cons_succ]
      refine wpList_store_cells rfl 25 _ _ rfl rfl w.heap.size (draftV zeroD) (draftV zeroD) 25 rfl rfl HX2.out HS.out rfl (draftV_all zeroD) ?_
      intro wf hc hb
      have HXF := Lib.hid hc.out
      have HBF := Lib.hid (show Below w.heap.size w wf from But.toBelow HB2.out hb.out (Nat.le_refl _) HB2.out.size)
      clear hc hb HX2 HB2
      go_wp2_with fail
      refine bodyPost_ret (results_cells_tmp rfl _ _ w.heap.size (draftV zeroD) 25 _ _ rfl rfl HXF.out Try.underlying25 rfl HS.out) rfl ?_
      exact ⟨by rw [HR.out]; rfl, HBF.out⟩
end Go.Proofs.Ythgfpojfnhkckaa
