/-
  The document's ReadDraft. Written by op/gen/gen_rdd.py.
-/
import Derived.Test.YthgfpojfnhkckaaOpGoodR
import Derived.Test.YthgfpojfnhkckaaOpIdR
import Derived.Test.YthgfpojfnhkckaaLay
namespace Go.Proofs.Ythgfpojfnhkckaa
open Go.RowKit Go.BigFrame

def RdD (o : Option DraftN) : Value := .tuple #[.agg (draftV (o.getD zeroD)), .bool o.isSome]
/-- A text that is none's. -/
theorem readD_bad {s : List UInt8} (h : ∀ k key val r, splitB s = some [k, key, val, r] → r.length = 32 → False) : readD s = none := by
  unfold readD
  split
  · rename_i k key val r hs
    rw [if_neg (fun hr => h k key val r hs hr)]
  · rfl
theorem readD_num {s : List UInt8} {k key val r : List UInt8} (hs : splitB s = some [k, key, val, r]) (hk : allNum k = none) : readD s = none := by
  unfold readD
  rw [hs]
  simp only [hk]
  split <;> rfl
theorem readD_at {s : List UInt8} {k key val r : List UInt8} {n : Nat} (hs : splitB s = some [k, key, val, r]) (hr : r.length = 32) (hk : allNum k = some n) : readD s = if GoodD ⟨n, key, val, byteNs r⟩ then some ⟨n, key, val, byteNs r⟩ else none := by
  unfold readD
  rw [hs]
  simp only [hk, if_pos hr]
theorem split_parts {s : List UInt8} {l : List (List UInt8)} (h : splitB s = some l) : ∀ t ∈ l, t.length ≤ 262144 := fun t ht => by
  have h1 := splitB_some h
  have h2 : s.length ≤ 262144 := by
    unfold splitB at h
    split at h
    · cases h
    · omega
  obtain ⟨q, hq, rfl⟩ := List.getElem_of_mem ht
  have h3 := textsB_parts l q hq
  have h4 := listB_length l
  have h5 := textB_length l[q]
  rw [h1] at h4
  omega
theorem strs4 {ao : Option Addr} {a b c d : List UInt8} {w : World} (h : StrsAt ao [a, b, c, d] w) : ∃ g o, ao = some ⟨g, o, none⟩ ∧ g < w.heap.size ∧ w.cell? ⟨g, o, none⟩ = some (.string ⟨a.toArray⟩) ∧ w.cell? ⟨g, o + 1, none⟩ = some (.string ⟨b.toArray⟩) ∧ w.cell? ⟨g, o + 2, none⟩ = some (.string ⟨c.toArray⟩) ∧ w.cell? ⟨g, o + 3, none⟩ = some (.string ⟨d.toArray⟩) := by
  rcases h with h | ⟨g, o, rfl, hg, hc⟩
  · cases h
  · exact ⟨g, o, rfl, hg, hc 0 (by simp), hc 1 (by simp), hc 2 (by simp), hc 3 (by simp)⟩
set_option maxHeartbeats 4000000 in
set_option maxRecDepth 100000 in
theorem ref_readDraft (s : List UInt8) (w : World) (hm : s.length ≤ 140737488351232) :
    Calls Try.prog 16 #[.string ⟨s.toArray⟩] w fun e w' => e = .returned (RdD (readD s)) ∧ Below w.heap.size w w' := by
  have hsz : (Try.prog.info? 25).map (·.size) = some (draftV zeroD).size := Try.sizeD
  have HS := Lib.hid hsz
  have HM := Lib.hid hm
  clear hsz hm
  go_enter Try.func16, Try.ntmps16
  go_upto_region 1 with (fail)
  have hx : Cells w.heap.size 25 (draftV zeroD) (w.alloc (.cells (draftV zeroD) 25)) := heap_alloc_new w _
  have hb : Below w.heap.size w (w.alloc (.cells (draftV zeroD) 25)) := (Below.refl _ _).alloc (Nat.le_refl _) _
  rw [zeroD_lit] at hx hb
  obtain ⟨w1, hw1⟩ : ∃ x, x = w.alloc (.cells (draftV zeroD) 25) := ⟨_, rfl⟩
  rw [zeroD_lit] at hw1
  rw [← hw1] at hx hb ⊢
  rw [← zeroD_lit] at hx
  have HX := Lib.hid hx
  have HB := Lib.hid hb
  clear hw1 hx hb
  go_wp2_with fail
  obtain ⟨q, hq⟩ : ∃ q, splitB s = q := ⟨_, rfl⟩
  have HL := Shut.mk hq
  have hcc := rsplit_any s w1 (by have := HM.out; omega)
  rw [hq] at hcc
  clear hq
  refine hcc.mono ?_
  rintro e w2 ⟨⟨v, rfl, ho⟩, hb⟩
  obtain ⟨ao, cq, rfl⟩ := ho.form
  have HX2 := Lib.hid (HX.out.below hb)
  have HB2 := Lib.hid (HB.out.trans (hb.mono HB.out.size))
  have HSA := Lib.hid (strsAt_own ho)
  clear hcc ho hb HX HB
  cases q with
  | none =>
    simp only [Option.getD_none, List.length_nil, Option.isSome_none]
    have HR := Shut.mk (readD_bad (s := s) (by intro k key val r h; rw [HL.out] at h; cases h))
    clear HSA
    go_upto_region 3 with (fail)
    refine wp_region_lit ?_
    refine wpList_build_val rfl 25 #[] rfl [] _ (by simp) built_draft0 ?_
    simp only [Act.put, List.setIfInBounds_toArray, List.set_cons_zero, List.set_cons_succ]
    refine wpList_store_cells rfl 25 _ _ rfl rfl w.heap.size (draftV zeroD) (draftV zeroD) 25 rfl rfl HX2.out HS.out rfl (draftV_all zeroD) ?_
    intro w9 hc hb
    have HX9 := Lib.hid hc.out
    have HB9 := Lib.hid (show Below w.heap.size w w9 from But.toBelow HB2.out hb.out (Nat.le_refl _) HB2.out.size)
    clear hc hb HX2 HB2
    go_wp2_with fail
    refine bodyPost_ret (results_cells_tmp rfl _ _ w.heap.size (draftV zeroD) 25 _ _ rfl rfl HX9.out Try.underlying25 rfl HS.out) rfl ?_
    exact ⟨by rw [HR.out]; rfl, HB9.out⟩
  | some l =>
    simp only [Option.getD_some, Option.isSome_some] at HSA ⊢
    obtain ⟨n, hn⟩ : ∃ n, l.length = n := ⟨_, rfl⟩
    by_cases h4 : n = 4
    · rw [hn]
      subst h4
      obtain ⟨k, key, val, r, rfl⟩ : ∃ a b c d, l = [a, b, c, d] := by
        match l, hn with
        | [a, b, c, d], _ => exact ⟨a, b, c, d, rfl⟩
      have HLR := Lib.hid (split_parts HL.out)
      obtain ⟨g, og, rfl, hg, c0, c1, c2, c3⟩ := strs4 HSA.out
      have HG := Lib.hid hg
      clear hn HSA hg
      obtain ⟨m, hm⟩ : ∃ m, r.length = m := ⟨_, rfl⟩
      have HMR := Shut.mk hm
      by_cases h32 : m = 32
      · subst h32
        have HNM := Lib.hid (fun w' => ref_number k w' (by have := HLR.out k (by simp); omega))
        have HC1 := Lib.hid c1
        have HC2 := Lib.hid c2
        have HC3 := Lib.hid c3
        clear c1 c2
        go_upto_region 4 with (fail)
        clear c3 hm
        go_wp2_with fail
        refine (HNM.out w2).mono ?_
        rintro e w3 ⟨x, rfl, hx, hb⟩
        have HN := Lib.hid hx
        have HX3 := Lib.hid (HX2.out.below hb)
        have HB3 := Lib.hid (HB2.out.trans (hb.mono HB2.out.size))
        have HD1 := Lib.hid ((hb.cell (p := ⟨g, og + 1, none⟩) HG.out).trans HC1.out)
        have HD2 := Lib.hid ((hb.cell (p := ⟨g, og + 2, none⟩) HG.out).trans HC2.out)
        have HD3 := Lib.hid ((hb.cell (p := ⟨g, og + 3, none⟩) HG.out).trans HC3.out)
        have HG3 := Lib.hid (Nat.lt_of_lt_of_le HG.out hb.size)
        clear c0 hx hb HNM HX2 HB2 HC1 HC2 HC3 HG
        go_upto_region 5 with (fail)
        obtain ⟨d, hd⟩ : ∃ d : DraftN, d = ⟨(x : Int), key, val, byteNs r⟩ := ⟨_, rfl⟩
        have HDD := Shut.mk hd
        have hdr : d.ref.length = 32 := by rw [hd]; show (byteNs r).length = 32; rw [byteNs_len, HMR.out]
        have HDR := Lib.hid hdr
        have HI1 := Lib.hid (show ∀ w, (Instr.indexAt 59 (.slice (some ⟨g, og, none⟩) 4 cq) (.int .i64 1)).run Try.prog w = .ok (.pointer (some ⟨g, og + 1, none⟩)) w from fun w => by go_simp)
        have HI2 := Lib.hid (show ∀ w, (Instr.indexAt 59 (.slice (some ⟨g, og, none⟩) 4 cq) (.int .i64 2)).run Try.prog w = .ok (.pointer (some ⟨g, og + 2, none⟩)) w from fun w => by go_simp)
        have HI3 := Lib.hid (show ∀ w, (Instr.indexAt 59 (.slice (some ⟨g, og, none⟩) 4 cq) (.int .i64 3)).run Try.prog w = .ok (.pointer (some ⟨g, og + 3, none⟩)) w from fun w => by go_simp)
        have HAL := Lib.hid (show ∀ w : World, (Instr.alloc 25 true (.tuple #[])).run Try.prog w = .ok (.pointer (some ⟨w.heap.size, 0, none⟩)) (w.alloc (.cells (draftV zeroD) 25)) from fun w => by kernel_rfl)
        have HBD := Lib.hid (show ∀ w, (Instr.build 25 ([(0, .int .i64 (x : Int)), (1, .string ⟨key.toArray⟩), (2, .string ⟨val.toArray⟩), (3, .agg (nums .u8 (byteNs r)).toArray)] : List (Nat × Value)).toArray).run Try.prog w = .ok (.agg (draftV d)) w from fun w => by
          have hb := built_draft d HDR.out
          rw [HDD.out] at hb ⊢
          exact run_build w 25 _ _ hb)
        have HD0 := Lib.hid (show Below w3.heap.size w3 w3.drew from (Below.refl _ _).drew)
        have HRL := Lib.hid (show r.length = 32 from HMR.out)
        have HSD := Lib.hid (show (Try.prog.info? 25).map (·.size) = some (draftV d).size by rw [draftV_size HDR.out]; exact Try.sizeD)
        have HSZ := Lib.hid (show (draftV zeroD).size = (draftV d).size by rw [draftV_size HDR.out]; rfl)
        clear hd hdr
        refine wp_region_free 13 (fun q V w' => Val q V 0 (.int .i64 (x : Int)) ∧ Val q V 1 (.slice (some ⟨g, og, none⟩) 4 cq) ∧ Val q V 2 (.pointer (some ⟨g, og + 1, none⟩)) ∧ Val q V 3 (.string ⟨key.toArray⟩) ∧ Val q V 4 (.slice (some ⟨g, og, none⟩) 4 cq) ∧ Val q V 5 (.pointer (some ⟨g, og + 2, none⟩)) ∧ Val q V 6 (.string ⟨val.toArray⟩) ∧ Val q V 7 (.slice (some ⟨g, og, none⟩) 4 cq) ∧ Val q V 8 (.pointer (some ⟨g, og + 3, none⟩)) ∧ Val q V 9 (.string ⟨r.toArray⟩) ∧ Val q V 10 (.agg (nums .u8 (byteNs r)).toArray) ∧ Val q V 11 (.agg (draftV d)) ∧ NewC q V w3.heap.size 12 25 (draftV zeroD) w' ∧ Below w3.heap.size w3 w') (fun _ => undef) (by kernel_rfl) (by kernel_rfl) (by kernel_rfl) (by simp only [List.take_succ_cons, List.take_zero, putAll, Act.put, List.setIfInBounds_toArray, List.set_cons_zero, List.set_cons_succ]) ⟨Val.none, Val.none, Val.none, Val.none, Val.none, Val.none, Val.none, Val.none, Val.none, Val.none, Val.none, Val.none, NewC.none, HD0.out⟩ ?_ ?_
        · simp only [List.take_succ_cons, List.take_zero, putAll, Nat.zero_add, Nat.reduceAdd, Act.put, List.setIfInBounds_toArray, List.set_cons_zero, List.set_cons_succ]
          refine FreeSteps.cons ?_ (FreeSteps.cons ?_ (FreeSteps.cons ?_ (FreeSteps.cons ?_ (FreeSteps.cons ?_ (FreeSteps.cons ?_ (FreeSteps.cons ?_ (FreeSteps.cons ?_ (FreeSteps.cons ?_ (FreeSteps.cons ?_ (FreeSteps.cons ?_ (FreeSteps.cons ?_ (FreeSteps.cons ?_ (FreeSteps.nil)))))))))))))
          all_goals (refine FreeStep.fresh rfl ?_; rintro q V wq hr hu ⟨h0, h1, h2, h3, h4, h5, h6, h7, h8, h9, h10, h11, h12, hb⟩ K hK)
          · exact op_move (.tmp 6) rfl _ rfl (hK _ _ ⟨.same, h1.ne (by decide), h2.ne (by decide), h3.ne (by decide), h4.ne (by decide), h5.ne (by decide), h6.ne (by decide), h7.ne (by decide), h8.ne (by decide), h9.ne (by decide), h10.ne (by decide), h11.ne (by decide), h12.ne (by decide) (Below.refl _ _), hb⟩)
          · exact op_move (.tmp 4) rfl _ rfl (hK _ _ ⟨h0.ne (by decide), .same, h2.ne (by decide), h3.ne (by decide), h4.ne (by decide), h5.ne (by decide), h6.ne (by decide), h7.ne (by decide), h8.ne (by decide), h9.ne (by decide), h10.ne (by decide), h11.ne (by decide), h12.ne (by decide) (Below.refl _ _), hb⟩)
          · exact op_indexAt 59 (.tmp 37) (.const (.int .i64 1)) rfl _ _ _ (h1 (hr { on := 1, ground := .data } (by simp) rfl)) rfl HI1.out (hK _ _ ⟨h0.ne (by decide), h1.ne (by decide), .same, h3.ne (by decide), h4.ne (by decide), h5.ne (by decide), h6.ne (by decide), h7.ne (by decide), h8.ne (by decide), h9.ne (by decide), h10.ne (by decide), h11.ne (by decide), h12.ne (by decide) (Below.refl _ _), hb⟩)
          · exact op_load_cell 9 (.tmp 38) rfl _ _ (h2 (hr { on := 2, ground := .data } (by simp) rfl)) ((hb.cell (p := ⟨g, og + 1, none⟩) HG3.out).trans HD1.out) Try.isAgg9 (hK _ _ ⟨h0.ne (by decide), h1.ne (by decide), h2.ne (by decide), .same, h4.ne (by decide), h5.ne (by decide), h6.ne (by decide), h7.ne (by decide), h8.ne (by decide), h9.ne (by decide), h10.ne (by decide), h11.ne (by decide), h12.ne (by decide) (Below.refl _ _), hb⟩)
          · exact op_move (.tmp 4) rfl _ rfl (hK _ _ ⟨h0.ne (by decide), h1.ne (by decide), h2.ne (by decide), h3.ne (by decide), .same, h5.ne (by decide), h6.ne (by decide), h7.ne (by decide), h8.ne (by decide), h9.ne (by decide), h10.ne (by decide), h11.ne (by decide), h12.ne (by decide) (Below.refl _ _), hb⟩)
          · exact op_indexAt 59 (.tmp 40) (.const (.int .i64 2)) rfl _ _ _ (h4 (hr { on := 4, ground := .data } (by simp) rfl)) rfl HI2.out (hK _ _ ⟨h0.ne (by decide), h1.ne (by decide), h2.ne (by decide), h3.ne (by decide), h4.ne (by decide), .same, h6.ne (by decide), h7.ne (by decide), h8.ne (by decide), h9.ne (by decide), h10.ne (by decide), h11.ne (by decide), h12.ne (by decide) (Below.refl _ _), hb⟩)
          · exact op_load_cell 9 (.tmp 41) rfl _ _ (h5 (hr { on := 5, ground := .data } (by simp) rfl)) ((hb.cell (p := ⟨g, og + 2, none⟩) HG3.out).trans HD2.out) Try.isAgg9 (hK _ _ ⟨h0.ne (by decide), h1.ne (by decide), h2.ne (by decide), h3.ne (by decide), h4.ne (by decide), h5.ne (by decide), .same, h7.ne (by decide), h8.ne (by decide), h9.ne (by decide), h10.ne (by decide), h11.ne (by decide), h12.ne (by decide) (Below.refl _ _), hb⟩)
          · exact op_move (.tmp 4) rfl _ rfl (hK _ _ ⟨h0.ne (by decide), h1.ne (by decide), h2.ne (by decide), h3.ne (by decide), h4.ne (by decide), h5.ne (by decide), h6.ne (by decide), .same, h8.ne (by decide), h9.ne (by decide), h10.ne (by decide), h11.ne (by decide), h12.ne (by decide) (Below.refl _ _), hb⟩)
          · exact op_indexAt 59 (.tmp 43) (.const (.int .i64 3)) rfl _ _ _ (h7 (hr { on := 7, ground := .data } (by simp) rfl)) rfl HI3.out (hK _ _ ⟨h0.ne (by decide), h1.ne (by decide), h2.ne (by decide), h3.ne (by decide), h4.ne (by decide), h5.ne (by decide), h6.ne (by decide), h7.ne (by decide), .same, h9.ne (by decide), h10.ne (by decide), h11.ne (by decide), h12.ne (by decide) (Below.refl _ _), hb⟩)
          · exact op_load_cell 9 (.tmp 44) rfl _ _ (h8 (hr { on := 8, ground := .data } (by simp) rfl)) ((hb.cell (p := ⟨g, og + 3, none⟩) HG3.out).trans HD3.out) Try.isAgg9 (hK _ _ ⟨h0.ne (by decide), h1.ne (by decide), h2.ne (by decide), h3.ne (by decide), h4.ne (by decide), h5.ne (by decide), h6.ne (by decide), h7.ne (by decide), h8.ne (by decide), .same, h10.ne (by decide), h11.ne (by decide), h12.ne (by decide) (Below.refl _ _), hb⟩)
          · refine op_call Try.func35 rfl rfl rfl [.string ⟨r.toArray⟩] ((congrArg (fun x => [x]) (h9 (hr { on := 9, ground := .data } (by simp) rfl)))) (ref_id r wq HRL.out) ?_
            rintro e w' ⟨rfl, hb'⟩
            exact ⟨_, rfl, (hK _ _ ⟨h0.ne (by decide), h1.ne (by decide), h2.ne (by decide), h3.ne (by decide), h4.ne (by decide), h5.ne (by decide), h6.ne (by decide), h7.ne (by decide), h8.ne (by decide), h9.ne (by decide), .same, h11.ne (by decide), h12.ne (by decide) hb', hb.trans (hb'.mono hb.size)⟩)⟩
          · exact op_build 25 #[(0, .tmp 36), (1, .tmp 39), (2, .tmp 42), (3, .tmp 46)] rfl [(0, .int .i64 (x : Int)), (1, .string ⟨key.toArray⟩), (2, .string ⟨val.toArray⟩), (3, .agg (nums .u8 (byteNs r)).toArray)] (draftV d) (by
                have v0 := (h0 (hr { on := 0, ground := .data } (by simp) rfl))
                have v3 := (h3 (hr { on := 3, ground := .data } (by simp) rfl))
                have v6 := (h6 (hr { on := 6, ground := .data } (by simp) rfl))
                have v10 := (h10 (hr { on := 10, ground := .data } (by simp) rfl))
                rw [List.map_toArray]
                show [((0 : Nat), V 0), (1, V 3), (2, V 6), (3, V 10)].toArray = _
                rw [v0, v3, v6, v10]) HBD.out (hK _ _ ⟨h0.ne (by decide), h1.ne (by decide), h2.ne (by decide), h3.ne (by decide), h4.ne (by decide), h5.ne (by decide), h6.ne (by decide), h7.ne (by decide), h8.ne (by decide), h9.ne (by decide), h10.ne (by decide), .same, h12.ne (by decide) (Below.refl _ _), hb⟩)
          · exact op_alloc 25 rfl (draftV zeroD) HAL.out (hK _ _ ⟨h0.ne (by decide), h1.ne (by decide), h2.ne (by decide), h3.ne (by decide), h4.ne (by decide), h5.ne (by decide), h6.ne (by decide), h7.ne (by decide), h8.ne (by decide), h9.ne (by decide), h10.ne (by decide), h11.ne (by decide), .same hb.size, hb.alloc hb.size _⟩)
        rintro q V wq hall ⟨h0, h1, h2, h3, h4, h5, h6, h7, h8, h9, h10, h11, h12, hb⟩
        have v0 := h0 (hall 0 (by decide))
        have v1 := h1 (hall 1 (by decide))
        have v2 := h2 (hall 2 (by decide))
        have v3 := h3 (hall 3 (by decide))
        have v4 := h4 (hall 4 (by decide))
        have v5 := h5 (hall 5 (by decide))
        have v6 := h6 (hall 6 (by decide))
        have v7 := h7 (hall 7 (by decide))
        have v8 := h8 (hall 8 (by decide))
        have v9 := h9 (hall 9 (by decide))
        have v10 := h10 (hall 10 (by decide))
        have v11 := h11 (hall 11 (by decide))
        obtain ⟨g12, v12, hg12, hc12⟩ := h12 (hall 12 (by decide))
        simp only [List.take_succ_cons, List.take_zero, List.drop_succ_cons, List.drop_zero, putAll, Nat.zero_add, Nat.reduceAdd, v0, v1, v2, v3, v4, v5, v6, v7, v8, v9, v10, v11, v12, Act.put, List.setIfInBounds_toArray, List.set_cons_zero, List.set_cons_succ]
        clear h0 h1 h2 h3 h4 h5 h6 h7 h8 h9 h10 h11 v0 v1 v2 v3 v4 v5 v6 v7 v8 v9 v10 v11 v12 hall
        have HG12 := Lib.hid hg12
        have HC12 := Lib.hid hc12
        have HB5 := Lib.hid hb
        clear HI1 HI2 HI3 HAL HBD HD0 hg12 hc12 hb HD1 HD2 HD3 HG3
        refine wpList_store_cells rfl 25 (.tmp 8) (.tmp 47) rfl rfl g12 _ (draftV d) 25 rfl rfl HC12.out HSD.out HSZ.out (draftV_all d) ?_
        intro w5 hc hb
        have HV := Lib.hid hc.out
        have HX5 := Lib.hid ((HX3.out.below HB5.out).but hb.out (by have h1 := HX3.out.lt; have h2 := HG12.out; omega))
        have HBW := Lib.hid (HB3.out.trans ((But.toBelow HB5.out hb.out HG12.out HB5.out.size).mono HB3.out.size))
        clear hc hb HC12 HB5 HX3 HB3 HSZ
        obtain ⟨an, han⟩ : ∃ an, allNum k = an := ⟨_, rfl⟩
        have HAN := Shut.mk han
        rw [han] at HN ⊢
        clear han
        cases an with
        | none =>
          have HR := Shut.mk (readD_num HL.out HAN.out)
          simp only [Option.isSome_none]
          go_upto_region 7 with (fail)
          refine wp_region_lit ?_
          refine wpList_build_val rfl 25 #[] rfl [] _ (by simp) built_draft0 ?_
          simp only [Act.put, List.setIfInBounds_toArray, List.set_cons_zero, List.set_cons_succ]
          refine wpList_store_cells rfl 25 _ _ rfl rfl w.heap.size (draftV zeroD) (draftV zeroD) 25 rfl rfl HX5.out HS.out rfl (draftV_all zeroD) ?_
          intro w9 hc hb
          have HX9 := Lib.hid hc.out
          have HB9 := Lib.hid (show Below w.heap.size w w9 from But.toBelow HBW.out hb.out (Nat.le_refl _) HBW.out.size)
          clear hc hb HX5 HBW
          go_wp2_with fail
          refine bodyPost_ret (results_cells_tmp rfl _ _ w.heap.size (draftV zeroD) 25 _ _ rfl rfl HX9.out Try.underlying25 rfl HS.out) rfl ?_
          exact ⟨by rw [HR.out]; rfl, HB9.out⟩
        | some nn =>
          obtain rfl : x = nn := HN.out nn rfl
          simp only [Option.isSome_some]
          have HR0 := Shut.mk ((readD_at HL.out HMR.out HAN.out).trans (by rw [← HDD.out]))
          have HKL := HLR.out key (by simp)
          have HVL := HLR.out val (by simp)
          have hkd : d.key = key := by rw [HDD.out]
          have hvd : d.val = val := by rw [HDD.out]
          have hok : IdOk d.ref := by rw [HDD.out]; exact ⟨by show (byteNs r).length = 32; rw [byteNs_len, HMR.out], byteNs_lt _⟩
          have HGD := Lib.hid (fun w' => ref_goodDraft d hok (by rw [hkd]; omega) (by rw [hvd]; omega) w')
          clear HKL HVL hkd hvd hok HDD HN HAN HLR HRL HMR HL
          go_upto_region 6 with (fail)
          refine wp_region_lit ?_
          iterate 9 (first | go_skip | go_guarded | go_step)
          refine wpList_load_cells_want (by rfl) 25 _ rfl g12 (draftV d) 25 _ rfl HV.out Try.underlying25 rfl HSD.out ?_
          simp only [Act.put, List.setIfInBounds_toArray, List.set_cons_zero, List.set_cons_succ]
          go_wp2_with fail
          refine (HGD.out w5).mono ?_
          rintro e w6 ⟨rfl, hb⟩
          have HV6 := Lib.hid (HV.out.below hb)
          have HX6 := Lib.hid (HX5.out.below hb)
          have HB6 := Lib.hid (HBW.out.trans (hb.mono HBW.out.size))
          clear hb HV HX5 HBW HGD
          by_cases hgd : GoodD d
          · rw [decide_eq_true hgd]
            have HR := Shut.mk (HR0.out.trans (if_pos hgd))
            clear hgd HR0
            go_upto_region 8 with (fail)
            refine wp_region_lit ?_
            refine wpList_load_cells rfl 25 _ rfl g12 (draftV d) 25 _ rfl HV6.out Try.underlying25 rfl HSD.out ?_
            simp only [Act.put, List.setIfInBounds_toArray, List.set_cons_zero, List.set_cons_succ]
            refine wpList_store_cells rfl 25 _ _ rfl rfl w.heap.size (draftV zeroD) (draftV d) 25 rfl rfl HX6.out HSD.out (by rw [draftV_size HDR.out]; rfl) (draftV_all d) ?_
            intro w9 hc hb
            have HX9 := Lib.hid hc.out
            have HB9 := Lib.hid (show Below w.heap.size w w9 from But.toBelow HB6.out hb.out (Nat.le_refl _) HB6.out.size)
            clear hc hb HX6 HB6
            go_wp2_with fail
            refine bodyPost_ret (results_cells_tmp rfl _ _ w.heap.size (draftV d) 25 _ _ rfl rfl HX9.out Try.underlying25 rfl HSD.out) rfl ?_
            exact ⟨by rw [HR.out]; rfl, HB9.out⟩
          · rw [decide_eq_false hgd]
            have HR := Shut.mk (HR0.out.trans (if_neg hgd))
            clear hgd HR0 HV6
            go_upto_region 7 with (fail)
            refine wp_region_lit ?_
            refine wpList_build_val rfl 25 #[] rfl [] _ (by simp) built_draft0 ?_
            simp only [Act.put, List.setIfInBounds_toArray, List.set_cons_zero, List.set_cons_succ]
            refine wpList_store_cells rfl 25 _ _ rfl rfl w.heap.size (draftV zeroD) (draftV zeroD) 25 rfl rfl HX6.out HS.out rfl (draftV_all zeroD) ?_
            intro w9 hc hb
            have HX9 := Lib.hid hc.out
            have HB9 := Lib.hid (show Below w.heap.size w w9 from But.toBelow HB6.out hb.out (Nat.le_refl _) HB6.out.size)
            clear hc hb HX6 HB6
            go_wp2_with fail
            refine bodyPost_ret (results_cells_tmp rfl _ _ w.heap.size (draftV zeroD) 25 _ _ rfl rfl HX9.out Try.underlying25 rfl HS.out) rfl ?_
            exact ⟨by rw [HR.out]; rfl, HB9.out⟩
      · have hm32 : ((m : Int) == 32) = false := by simp; omega
        have HR := Shut.mk (readD_bad (s := s) (by intro a b c d h hd; rw [HL.out] at h; simp only [Option.some.injEq, List.cons.injEq, and_true] at h; obtain ⟨rfl, rfl, rfl, rfl⟩ := h; exact h32 (HMR.out.symm.trans hd)))
        clear c0 c1 c2 h32
        go_upto_region 3 with (fail)
        refine wp_region_lit ?_
        refine wpList_build_val rfl 25 #[] rfl [] _ (by simp) built_draft0 ?_
        simp only [Act.put, List.setIfInBounds_toArray, List.set_cons_zero, List.set_cons_succ]
        refine wpList_store_cells rfl 25 _ _ rfl rfl w.heap.size (draftV zeroD) (draftV zeroD) 25 rfl rfl HX2.out HS.out rfl (draftV_all zeroD) ?_
        intro w9 hc hb
        have HX9 := Lib.hid hc.out
        have HB9 := Lib.hid (show Below w.heap.size w w9 from But.toBelow HB2.out hb.out (Nat.le_refl _) HB2.out.size)
        clear hc hb HX2 HB2
        go_wp2_with fail
        refine bodyPost_ret (results_cells_tmp rfl _ _ w.heap.size (draftV zeroD) 25 _ _ rfl rfl HX9.out Try.underlying25 rfl HS.out) rfl ?_
        exact ⟨by rw [HR.out]; rfl, HB9.out⟩
    · have hn4 : ((n : Int) == 4) = false := by simp; omega
      have HR := Shut.mk (readD_bad (s := s) (by intro a b c d h hd; rw [HL.out] at h; simp only [Option.some.injEq] at h; subst h; exact h4 (by rw [← hn]; rfl)))
      rw [hn]
      clear HSA hn
      go_upto_region 3 with (fail)
      refine wp_region_lit ?_
      refine wpList_build_val rfl 25 #[] rfl [] _ (by simp) built_draft0 ?_
      simp only [Act.put, List.setIfInBounds_toArray, List.set_cons_zero, List.set_cons_succ]
      refine wpList_store_cells rfl 25 _ _ rfl rfl w.heap.size (draftV zeroD) (draftV zeroD) 25 rfl rfl HX2.out HS.out rfl (draftV_all zeroD) ?_
      intro w9 hc hb
      have HX9 := Lib.hid hc.out
      have HB9 := Lib.hid (show Below w.heap.size w w9 from But.toBelow HB2.out hb.out (Nat.le_refl _) HB2.out.size)
      clear hc hb HX2 HB2
      go_wp2_with fail
      refine bodyPost_ret (results_cells_tmp rfl _ _ w.heap.size (draftV zeroD) 25 _ _ rfl rfl HX9.out Try.underlying25 rfl HS.out) rfl ?_
      exact ⟨by rw [HR.out]; rfl, HB9.out⟩
end Go.Proofs.Ythgfpojfnhkckaa
