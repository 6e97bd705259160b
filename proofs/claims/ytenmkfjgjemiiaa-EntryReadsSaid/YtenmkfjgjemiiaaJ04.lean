/-
  Joined: The document's ReadDraft. Written by op/gen/gen_rdd.py.; What the developers' readers reckon of drafts, as plain mathematics: split, take the parts as they are, and ask whether it is good and has these bytes.; What the developers' readers reckon of entries, as plain mathematics: split, take the parts as they are, and ask whether the bytes are these.; A reader opened in a region whose order is open, until its number is taken in.; A reader's End.; strings.Clone's contract at this program's numbers.; A reader's Text.; A reader's List.; pack.Split.; The developers' ReadDraft. Written by op/gen/gen_drd.py.; Rows of texts of the call's own: one text, or a slice's texts, pushed.
-/
import Derived.Laws.AppendOwnNone
import Derived.Shelf.LaysM
import Derived.Shelf.Strconv.Clone
import Derived.Test.YtenmkfjgjemiiaaProg
import Derived.Test.YtenmkfjgjemiiaaJ01
import Derived.Test.YtenmkfjgjemiiaaJ02
import Derived.Test.YtenmkfjgjemiiaaJ03
namespace Go.Proofs.Ytenmkfjgjemiiaa
open Go.RowKit Go.BigFrame
def RdD (o : Option DraftN) : Value := .tuple #[.agg (draftV (o.getD zeroD)), .bool o.isSome]
theorem readD_bad {s : List UInt8} (h : ∀ k key val r, splitB s = some [k, key, val, r] → r.length = 32 → False) : readD s = none := by
  unfold readD
  split
  · rename_i k key val r hs
    rw [if_neg (fun hr => h k key val r hs hr)]
  · rfl
theorem readD_num {s : List UInt8} {k key val r : List UInt8} (hs : splitB s = some [k, key, val, r]) (hk : allNum k = none) : readD s = none := by
  unfold readD
  rw [hs]
  simp only [hk]
  split <;> rfl
theorem readD_at {s : List UInt8} {k key val r : List UInt8} {n : Nat} (hs : splitB s = some [k, key, val, r]) (hr : r.length = 32) (hk : allNum k = some n) : readD s = if GoodD ⟨n, key, val, byteNs r⟩ then some ⟨n, key, val, byteNs r⟩ else none := by
  unfold readD
  rw [hs]
  simp only [hk, if_pos hr]
theorem strs4 {ao : Option Addr} {a b c d : List UInt8} {w : World} (h : StrsAt ao [a, b, c, d] w) : ∃ g o, ao = some ⟨g, o, none⟩ ∧ g < w.heap.size ∧ w.cell? ⟨g, o, none⟩ = some (.string ⟨a.toArray⟩) ∧ w.cell? ⟨g, o + 1, none⟩ = some (.string ⟨b.toArray⟩) ∧ w.cell? ⟨g, o + 2, none⟩ = some (.string ⟨c.toArray⟩) ∧ w.cell? ⟨g, o + 3, none⟩ = some (.string ⟨d.toArray⟩) := by
  rcases h with h | ⟨g, o, rfl, hg, hc⟩
  · cases h
  · exact ⟨g, o, rfl, hg, hc 0 (by simp), hc 1 (by simp), hc 2 (by simp), hc 3 (by simp)⟩
set_option maxHeartbeats 4000000 in
set_option maxRecDepth 100000 in
theorem ref_readDraft (s : List UInt8) (w : World) (hm : s.length ≤ 140737488351232) :
    Calls Try.prog 39 #[.string ⟨s.toArray⟩] w fun e w' => e = .returned (RdD (readD s)) ∧ Below w.heap.size w w' := by
  have hsz : (Try.prog.info? 28).map (·.size) = some (draftV zeroD).size := Try.sizeD
  have HS := Lib.hid hsz
  have HM := Lib.hid hm
  clear hsz hm
  go_enter Try.func39, Try.ntmps39
  go_upto_region 1 with (fail)
  have hx : Cells w.heap.size 28 (draftV zeroD) (w.alloc (.cells (draftV zeroD) 28)) := heap_alloc_new w _
  have hb : Below w.heap.size w (w.alloc (.cells (draftV zeroD) 28)) := (Below.refl _ _).alloc (Nat.le_refl _) _
  rw [zeroD_lit] at hx hb
  obtain ⟨w1, hw1⟩ : ∃ x, x = w.alloc (.cells (draftV zeroD) 28) := ⟨_, rfl⟩
  rw [zeroD_lit] at hw1
  rw [← hw1] at hx hb ⊢
  rw [← zeroD_lit] at hx
  have HX := Lib.hid hx
  have HB := Lib.hid hb
  clear hw1 hx hb
  go_wp2_with fail
  obtain ⟨q, hq⟩ : ∃ q, splitB s = q := ⟨_, rfl⟩
  have HL := Shut.mk hq
  have hcc := rsplit_any s w1 (by have := HM.out; omega)
  rw [hq] at hcc
  clear hq
  refine hcc.mono ?_
  rintro e w2 ⟨⟨v, rfl, ho⟩, hb⟩
  obtain ⟨ao, cq, rfl⟩ := ho.form
  have HX2 := Lib.hid (HX.out.below hb)
  have HB2 := Lib.hid (HB.out.trans (hb.mono HB.out.size))
  have HSA := Lib.hid (strsAt_own ho)
  clear hcc ho hb HX HB
  cases q with
  | none =>
    simp only [Option.getD_none, List.length_nil, Option.isSome_none]
    have HR := Shut.mk (readD_bad (s := s) (by intro k key val r h; rw [HL.out] at h; cases h))
    clear HSA
    go_upto_region 3 with (fail)
    refine wp_region_lit ?_
    refine wpList_build_val rfl 28 #[] rfl [] _ (by simp) built_draft0 ?_
    simp only [Act.put, List.setIfInBounds_toArray, List.set_cons_zero, List.set_cons_succ]
    refine wpList_store_cells rfl 28 _ _ rfl rfl w.heap.size (draftV zeroD) (draftV zeroD) 28 rfl rfl HX2.out HS.out rfl (draftV_all zeroD) ?_
    intro w9 hc hb
    have HX9 := Lib.hid hc.out
    have HB9 := Lib.hid (show Below w.heap.size w w9 from But.toBelow HB2.out hb.out (Nat.le_refl _) HB2.out.size)
    clear hc hb HX2 HB2
    go_wp2_with fail
    refine bodyPost_ret (results_cells_tmp rfl _ _ w.heap.size (draftV zeroD) 28 _ _ rfl rfl HX9.out Try.underlying28 rfl HS.out) rfl ?_
    exact ⟨by rw [HR.out]; rfl, HB9.out⟩
  | some l =>
    simp only [Option.getD_some, Option.isSome_some] at HSA ⊢
    obtain ⟨n, hn⟩ : ∃ n, l.length = n := ⟨_, rfl⟩
    by_cases h4 : n = 4
    · rw [hn]
      subst h4
      obtain ⟨k, key, val, r, rfl⟩ : ∃ a b c d, l = [a, b, c, d] := by
        match l, hn with
        | [a, b, c, d], _ => exact ⟨a, b, c, d, rfl⟩
      have HLR := Lib.hid (split_parts HL.out)
      obtain ⟨g, og, rfl, hg, c0, c1, c2, c3⟩ := strs4 HSA.out
      have HG := Lib.hid hg
      clear hn HSA hg
      obtain ⟨m, hm⟩ : ∃ m, r.length = m := ⟨_, rfl⟩
      have HMR := Shut.mk hm
      by_cases h32 : m = 32
      · subst h32
        have HNM := Lib.hid (fun w' => ref_number k w' (by have := HLR.out k (by simp); omega))
        have HC1 := Lib.hid c1
        have HC2 := Lib.hid c2
        have HC3 := Lib.hid c3
        clear c1 c2
        go_upto_region 4 with (fail)
        clear c3 hm
        go_wp2_with fail
        refine (HNM.out w2).mono ?_
        rintro e w3 ⟨x, rfl, hx, hb⟩
        have HN := Lib.hid hx
        have HX3 := Lib.hid (HX2.out.below hb)
        have HB3 := Lib.hid (HB2.out.trans (hb.mono HB2.out.size))
        have HD1 := Lib.hid ((hb.cell (p := ⟨g, og + 1, none⟩) HG.out).trans HC1.out)
        have HD2 := Lib.hid ((hb.cell (p := ⟨g, og + 2, none⟩) HG.out).trans HC2.out)
        have HD3 := Lib.hid ((hb.cell (p := ⟨g, og + 3, none⟩) HG.out).trans HC3.out)
        have HG3 := Lib.hid (Nat.lt_of_lt_of_le HG.out hb.size)
        clear c0 hx hb HNM HX2 HB2 HC1 HC2 HC3 HG
        go_upto_region 5 with (fail)
        obtain ⟨d, hd⟩ : ∃ d : DraftN, d = ⟨(x : Int), key, val, byteNs r⟩ := ⟨_, rfl⟩
        have HDD := Shut.mk hd
        have hdr : d.ref.length = 32 := by rw [hd]; show (byteNs r).length = 32; rw [byteNs_len, HMR.out]
        have HDR := Lib.hid hdr
        have HI1 := Lib.hid (show ∀ w, (Instr.indexAt 61 (.slice (some ⟨g, og, none⟩) 4 cq) (.int .i64 1)).run Try.prog w = .ok (.pointer (some ⟨g, og + 1, none⟩)) w from fun w => by go_simp)
        have HI2 := Lib.hid (show ∀ w, (Instr.indexAt 61 (.slice (some ⟨g, og, none⟩) 4 cq) (.int .i64 2)).run Try.prog w = .ok (.pointer (some ⟨g, og + 2, none⟩)) w from fun w => by go_simp)
        have HI3 := Lib.hid (show ∀ w, (Instr.indexAt 61 (.slice (some ⟨g, og, none⟩) 4 cq) (.int .i64 3)).run Try.prog w = .ok (.pointer (some ⟨g, og + 3, none⟩)) w from fun w => by go_simp)
        have HAL := Lib.hid (show ∀ w : World, (Instr.alloc 28 true (.tuple #[])).run Try.prog w = .ok (.pointer (some ⟨w.heap.size, 0, none⟩)) (w.alloc (.cells (draftV zeroD) 28)) from fun w => by kernel_rfl)
        have HBD := Lib.hid (show ∀ w, (Instr.build 28 ([(0, .int .i64 (x : Int)), (1, .string ⟨key.toArray⟩), (2, .string ⟨val.toArray⟩), (3, .agg (nums .u8 (byteNs r)).toArray)] : List (Nat × Value)).toArray).run Try.prog w = .ok (.agg (draftV d)) w from fun w => by
          have hb := built_draft d HDR.out
          rw [HDD.out] at hb ⊢
          exact run_build w 28 _ _ hb)
        have HD0 := Lib.hid (show Below w3.heap.size w3 w3.drew from (Below.refl _ _).drew)
        have HRL := Lib.hid (show r.length = 32 from HMR.out)
        have HSD := Lib.hid (show (Try.prog.info? 28).map (·.size) = some (draftV d).size by rw [draftV_size HDR.out]; exact Try.sizeD)
        have HSZ := Lib.hid (show (draftV zeroD).size = (draftV d).size by rw [draftV_size HDR.out]; rfl)
        clear hd hdr
        refine wp_region_free 13 (fun q V w' => Val q V 0 (.int .i64 (x : Int)) ∧ Val q V 1 (.slice (some ⟨g, og, none⟩) 4 cq) ∧ Val q V 2 (.pointer (some ⟨g, og + 1, none⟩)) ∧ Val q V 3 (.string ⟨key.toArray⟩) ∧ Val q V 4 (.slice (some ⟨g, og, none⟩) 4 cq) ∧ Val q V 5 (.pointer (some ⟨g, og + 2, none⟩)) ∧ Val q V 6 (.string ⟨val.toArray⟩) ∧ Val q V 7 (.slice (some ⟨g, og, none⟩) 4 cq) ∧ Val q V 8 (.pointer (some ⟨g, og + 3, none⟩)) ∧ Val q V 9 (.string ⟨r.toArray⟩) ∧ Val q V 10 (.agg (nums .u8 (byteNs r)).toArray) ∧ Val q V 11 (.agg (draftV d)) ∧ NewC q V w3.heap.size 12 28 (draftV zeroD) w' ∧ Below w3.heap.size w3 w') (fun _ => undef) (by kernel_rfl) (by kernel_rfl) (by kernel_rfl) (by simp only [List.take_succ_cons, List.take_zero, putAll, Act.put, List.setIfInBounds_toArray, List.set_cons_zero, List.set_cons_succ]) ⟨Val.none, Val.none, Val.none, Val.none, Val.none, Val.none, Val.none, Val.none, Val.none, Val.none, Val.none, Val.none, NewC.none, HD0.out⟩ ?_ ?_
        · simp only [List.take_succ_cons, List.take_zero, putAll, Nat.zero_add, Nat.reduceAdd, Act.put, List.setIfInBounds_toArray, List.set_cons_zero, List.set_cons_succ]
          refine FreeSteps.cons ?_ (FreeSteps.cons ?_ (FreeSteps.cons ?_ (FreeSteps.cons ?_ (FreeSteps.cons ?_ (FreeSteps.cons ?_ (FreeSteps.cons ?_ (FreeSteps.cons ?_ (FreeSteps.cons ?_ (FreeSteps.cons ?_ (FreeSteps.cons ?_ (FreeSteps.cons ?_ (FreeSteps.cons ?_ (FreeSteps.nil)))))))))))))
          all_goals (refine FreeStep.fresh rfl ?_; rintro q V wq hr hu ⟨h0, h1, h2, h3, h4, h5, h6, h7, h8, h9, h10, h11, h12, hb⟩ K hK)
          · exact op_move (.tmp 6) rfl _ rfl (hK _ _ ⟨.same, h1.ne (by decide), h2.ne (by decide), h3.ne (by decide), h4.ne (by decide), h5.ne (by decide), h6.ne (by decide), h7.ne (by decide), h8.ne (by decide), h9.ne (by decide), h10.ne (by decide), h11.ne (by decide), h12.ne (by decide) (Below.refl _ _), hb⟩)
          · exact op_move (.tmp 4) rfl _ rfl (hK _ _ ⟨h0.ne (by decide), .same, h2.ne (by decide), h3.ne (by decide), h4.ne (by decide), h5.ne (by decide), h6.ne (by decide), h7.ne (by decide), h8.ne (by decide), h9.ne (by decide), h10.ne (by decide), h11.ne (by decide), h12.ne (by decide) (Below.refl _ _), hb⟩)
          · exact op_indexAt 61 (.tmp 37) (.const (.int .i64 1)) rfl _ _ _ (h1 (hr { on := 1, ground := .data } (by simp) rfl)) rfl HI1.out (hK _ _ ⟨h0.ne (by decide), h1.ne (by decide), .same, h3.ne (by decide), h4.ne (by decide), h5.ne (by decide), h6.ne (by decide), h7.ne (by decide), h8.ne (by decide), h9.ne (by decide), h10.ne (by decide), h11.ne (by decide), h12.ne (by decide) (Below.refl _ _), hb⟩)
          · exact op_load_cell 9 (.tmp 38) rfl _ _ (h2 (hr { on := 2, ground := .data } (by simp) rfl)) ((hb.cell (p := ⟨g, og + 1, none⟩) HG3.out).trans HD1.out) Try.isAgg9 (hK _ _ ⟨h0.ne (by decide), h1.ne (by decide), h2.ne (by decide), .same, h4.ne (by decide), h5.ne (by decide), h6.ne (by decide), h7.ne (by decide), h8.ne (by decide), h9.ne (by decide), h10.ne (by decide), h11.ne (by decide), h12.ne (by decide) (Below.refl _ _), hb⟩)
          · exact op_move (.tmp 4) rfl _ rfl (hK _ _ ⟨h0.ne (by decide), h1.ne (by decide), h2.ne (by decide), h3.ne (by decide), .same, h5.ne (by decide), h6.ne (by decide), h7.ne (by decide), h8.ne (by decide), h9.ne (by decide), h10.ne (by decide), h11.ne (by decide), h12.ne (by decide) (Below.refl _ _), hb⟩)
          · exact op_indexAt 61 (.tmp 40) (.const (.int .i64 2)) rfl _ _ _ (h4 (hr { on := 4, ground := .data } (by simp) rfl)) rfl HI2.out (hK _ _ ⟨h0.ne (by decide), h1.ne (by decide), h2.ne (by decide), h3.ne (by decide), h4.ne (by decide), .same, h6.ne (by decide), h7.ne (by decide), h8.ne (by decide), h9.ne (by decide), h10.ne (by decide), h11.ne (by decide), h12.ne (by decide) (Below.refl _ _), hb⟩)
          · exact op_load_cell 9 (.tmp 41) rfl _ _ (h5 (hr { on := 5, ground := .data } (by simp) rfl)) ((hb.cell (p := ⟨g, og + 2, none⟩) HG3.out).trans HD2.out) Try.isAgg9 (hK _ _ ⟨h0.ne (by decide), h1.ne (by decide), h2.ne (by decide), h3.ne (by decide), h4.ne (by decide), h5.ne (by decide), .same, h7.ne (by decide), h8.ne (by decide), h9.ne (by decide), h10.ne (by decide), h11.ne (by decide), h12.ne (by decide) (Below.refl _ _), hb⟩)
          · exact op_move (.tmp 4) rfl _ rfl (hK _ _ ⟨h0.ne (by decide), h1.ne (by decide), h2.ne (by decide), h3.ne (by decide), h4.ne (by decide), h5.ne (by decide), h6.ne (by decide), .same, h8.ne (by decide), h9.ne (by decide), h10.ne (by decide), h11.ne (by decide), h12.ne (by decide) (Below.refl _ _), hb⟩)
          · exact op_indexAt 61 (.tmp 43) (.const (.int .i64 3)) rfl _ _ _ (h7 (hr { on := 7, ground := .data } (by simp) rfl)) rfl HI3.out (hK _ _ ⟨h0.ne (by decide), h1.ne (by decide), h2.ne (by decide), h3.ne (by decide), h4.ne (by decide), h5.ne (by decide), h6.ne (by decide), h7.ne (by decide), .same, h9.ne (by decide), h10.ne (by decide), h11.ne (by decide), h12.ne (by decide) (Below.refl _ _), hb⟩)
          · exact op_load_cell 9 (.tmp 44) rfl _ _ (h8 (hr { on := 8, ground := .data } (by simp) rfl)) ((hb.cell (p := ⟨g, og + 3, none⟩) HG3.out).trans HD3.out) Try.isAgg9 (hK _ _ ⟨h0.ne (by decide), h1.ne (by decide), h2.ne (by decide), h3.ne (by decide), h4.ne (by decide), h5.ne (by decide), h6.ne (by decide), h7.ne (by decide), h8.ne (by decide), .same, h10.ne (by decide), h11.ne (by decide), h12.ne (by decide) (Below.refl _ _), hb⟩)
          · refine op_call Try.func55 rfl rfl rfl [.string ⟨r.toArray⟩] ((congrArg (fun x => [x]) (h9 (hr { on := 9, ground := .data } (by simp) rfl)))) (ref_id r wq HRL.out) ?_
            rintro e w' ⟨rfl, hb'⟩
            exact ⟨_, rfl, (hK _ _ ⟨h0.ne (by decide), h1.ne (by decide), h2.ne (by decide), h3.ne (by decide), h4.ne (by decide), h5.ne (by decide), h6.ne (by decide), h7.ne (by decide), h8.ne (by decide), h9.ne (by decide), .same, h11.ne (by decide), h12.ne (by decide) hb', hb.trans (hb'.mono hb.size)⟩)⟩
          · exact op_build 28 #[(0, .tmp 36), (1, .tmp 39), (2, .tmp 42), (3, .tmp 46)] rfl [(0, .int .i64 (x : Int)), (1, .string ⟨key.toArray⟩), (2, .string ⟨val.toArray⟩), (3, .agg (nums .u8 (byteNs r)).toArray)] (draftV d) (by
                have v0 := (h0 (hr { on := 0, ground := .data } (by simp) rfl))
                have v3 := (h3 (hr { on := 3, ground := .data } (by simp) rfl))
                have v6 := (h6 (hr { on := 6, ground := .data } (by simp) rfl))
                have v10 := (h10 (hr { on := 10, ground := .data } (by simp) rfl))
                rw [List.map_toArray]
                show [((0 : Nat), V 0), (1, V 3), (2, V 6), (3, V 10)].toArray = _
                rw [v0, v3, v6, v10]) HBD.out (hK _ _ ⟨h0.ne (by decide), h1.ne (by decide), h2.ne (by decide), h3.ne (by decide), h4.ne (by decide), h5.ne (by decide), h6.ne (by decide), h7.ne (by decide), h8.ne (by decide), h9.ne (by decide), h10.ne (by decide), .same, h12.ne (by decide) (Below.refl _ _), hb⟩)
          · exact op_alloc 28 rfl (draftV zeroD) HAL.out (hK _ _ ⟨h0.ne (by decide), h1.ne (by decide), h2.ne (by decide), h3.ne (by decide), h4.ne (by decide), h5.ne (by decide), h6.ne (by decide), h7.ne (by decide), h8.ne (by decide), h9.ne (by decide), h10.ne (by decide), h11.ne (by decide), .same hb.size, hb.alloc hb.size _⟩)
        rintro q V wq hall ⟨h0, h1, h2, h3, h4, h5, h6, h7, h8, h9, h10, h11, h12, hb⟩
        have v0 := h0 (hall 0 (by decide))
        have v1 := h1 (hall 1 (by decide))
        have v2 := h2 (hall 2 (by decide))
        have v3 := h3 (hall 3 (by decide))
        have v4 := h4 (hall 4 (by decide))
        have v5 := h5 (hall 5 (by decide))
        have v6 := h6 (hall 6 (by decide))
        have v7 := h7 (hall 7 (by decide))
        have v8 := h8 (hall 8 (by decide))
        have v9 := h9 (hall 9 (by decide))
        have v10 := h10 (hall 10 (by decide))
        have v11 := h11 (hall 11 (by decide))
        obtain ⟨g12, v12, hg12, hc12⟩ := h12 (hall 12 (by decide))
        simp only [List.take_succ_cons, List.take_zero, List.drop_succ_cons, List.drop_zero, putAll, Nat.zero_add, Nat.reduceAdd, v0, v1, v2, v3, v4, v5, v6, v7, v8, v9, v10, v11, v12, Act.put, List.setIfInBounds_toArray, List.set_cons_zero, List.set_cons_succ]
        clear h0 h1 h2 h3 h4 h5 h6 h7 h8 h9 h10 h11 v0 v1 v2 v3 v4 v5 v6 v7 v8 v9 v10 v11 v12 hall
        have HG12 := Lib.hid hg12
        have HC12 := Lib.hid hc12
        have HB5 := Lib.hid hb
        clear HI1 HI2 HI3 HAL HBD HD0 hg12 hc12 hb HD1 HD2 HD3 HG3
        refine wpList_store_cells rfl 28 (.tmp 8) (.tmp 47) rfl rfl g12 _ (draftV d) 28 rfl rfl HC12.out HSD.out HSZ.out (draftV_all d) ?_
        intro w5 hc hb
        have HV := Lib.hid hc.out
        have HX5 := Lib.hid ((HX3.out.below HB5.out).but hb.out (by have h1 := HX3.out.lt; have h2 := HG12.out; omega))
        have HBW := Lib.hid (HB3.out.trans ((But.toBelow HB5.out hb.out HG12.out HB5.out.size).mono HB3.out.size))
        clear hc hb HC12 HB5 HX3 HB3 HSZ
        obtain ⟨an, han⟩ : ∃ an, allNum k = an := ⟨_, rfl⟩
        have HAN := Shut.mk han
        rw [han] at HN ⊢
        clear han
        cases an with
        | none =>
          have HR := Shut.mk (readD_num HL.out HAN.out)
          simp only [Option.isSome_none]
          go_upto_region 7 with (fail)
          refine wp_region_lit ?_
          refine wpList_build_val rfl 28 #[] rfl [] _ (by simp) built_draft0 ?_
          simp only [Act.put, List.setIfInBounds_toArray, List.set_cons_zero, List.set_cons_succ]
          refine wpList_store_cells rfl 28 _ _ rfl rfl w.heap.size (draftV zeroD) (draftV zeroD) 28 rfl rfl HX5.out HS.out rfl (draftV_all zeroD) ?_
          intro w9 hc hb
          have HX9 := Lib.hid hc.out
          have HB9 := Lib.hid (show Below w.heap.size w w9 from But.toBelow HBW.out hb.out (Nat.le_refl _) HBW.out.size)
          clear hc hb HX5 HBW
          go_wp2_with fail
          refine bodyPost_ret (results_cells_tmp rfl _ _ w.heap.size (draftV zeroD) 28 _ _ rfl rfl HX9.out Try.underlying28 rfl HS.out) rfl ?_
          exact ⟨by rw [HR.out]; rfl, HB9.out⟩
        | some nn =>
          obtain rfl : x = nn := HN.out nn rfl
          simp only [Option.isSome_some]
          have HR0 := Shut.mk ((readD_at HL.out HMR.out HAN.out).trans (by rw [← HDD.out]))
          have HKL := HLR.out key (by simp)
          have HVL := HLR.out val (by simp)
          have hkd : d.key = key := by rw [HDD.out]
          have hvd : d.val = val := by rw [HDD.out]
          have hok : IdOk d.ref := by rw [HDD.out]; exact ⟨by show (byteNs r).length = 32; rw [byteNs_len, HMR.out], byteNs_lt _⟩
          have HGD := Lib.hid (fun w' => ref_goodDraft d hok (by rw [hkd]; omega) (by rw [hvd]; omega) w')
          clear HKL HVL hkd hvd hok HDD HN HAN HLR HRL HMR HL
          go_upto_region 6 with (fail)
          refine wp_region_lit ?_
          iterate 9 (first | go_skip | go_guarded | go_step)
          refine wpList_load_cells_want (by rfl) 28 _ rfl g12 (draftV d) 28 _ rfl HV.out Try.underlying28 rfl HSD.out ?_
          simp only [Act.put, List.setIfInBounds_toArray, List.set_cons_zero, List.set_cons_succ]
          go_wp2_with fail
          refine (HGD.out w5).mono ?_
          rintro e w6 ⟨rfl, hb⟩
          have HV6 := Lib.hid (HV.out.below hb)
          have HX6 := Lib.hid (HX5.out.below hb)
          have HB6 := Lib.hid (HBW.out.trans (hb.mono HBW.out.size))
          clear hb HV HX5 HBW HGD
          by_cases hgd : GoodD d
          · rw [decide_eq_true hgd]
            have HR := Shut.mk (HR0.out.trans (if_pos hgd))
            clear hgd HR0
            go_upto_region 8 with (fail)
            refine wp_region_lit ?_
            refine wpList_load_cells rfl 28 _ rfl g12 (draftV d) 28 _ rfl HV6.out Try.underlying28 rfl HSD.out ?_
            simp only [Act.put, List.setIfInBounds_toArray, List.set_cons_zero, List.set_cons_succ]
            refine wpList_store_cells rfl 28 _ _ rfl rfl w.heap.size (draftV zeroD) (draftV d) 28 rfl rfl HX6.out HSD.out (by rw [draftV_size HDR.out]; rfl) (draftV_all d) ?_
            intro w9 hc hb
            have HX9 := Lib.hid hc.out
            have HB9 := Lib.hid (show Below w.heap.size w w9 from But.toBelow HB6.out hb.out (Nat.le_refl _) HB6.out.size)
            clear hc hb HX6 HB6
            go_wp2_with fail
            refine bodyPost_ret (results_cells_tmp rfl _ _ w.heap.size (draftV d) 28 _ _ rfl rfl HX9.out Try.underlying28 rfl HSD.out) rfl ?_
            exact ⟨by rw [HR.out]; rfl, HB9.out⟩
          · rw [decide_eq_false hgd]
            have HR := Shut.mk (HR0.out.trans (if_neg hgd))
            clear hgd HR0 HV6
            go_upto_region 7 with (fail)
            refine wp_region_lit ?_
            refine wpList_build_val rfl 28 #[] rfl [] _ (by simp) built_draft0 ?_
            simp only [Act.put, List.setIfInBounds_toArray, List.set_cons_zero, List.set_cons_succ]
            refine wpList_store_cells rfl 28 _ _ rfl rfl w.heap.size (draftV zeroD) (draftV zeroD) 28 rfl rfl HX6.out HS.out rfl (draftV_all zeroD) ?_
            intro w9 hc hb
            have HX9 := Lib.hid hc.out
            have HB9 := Lib.hid (show Below w.heap.size w w9 from But.toBelow HB6.out hb.out (Nat.le_refl _) HB6.out.size)
            clear hc hb HX6 HB6
            go_wp2_with fail
            refine bodyPost_ret (results_cells_tmp rfl _ _ w.heap.size (draftV zeroD) 28 _ _ rfl rfl HX9.out Try.underlying28 rfl HS.out) rfl ?_
            exact ⟨by rw [HR.out]; rfl, HB9.out⟩
      · have hm32 : ((m : Int) == 32) = false := by simp; omega
        have HR := Shut.mk (readD_bad (s := s) (by intro a b c d h hd; rw [HL.out] at h; simp only [Option.some.injEq, List.cons.injEq, and_true] at h; obtain ⟨rfl, rfl, rfl, rfl⟩ := h; exact h32 (HMR.out.symm.trans hd)))
        clear c0 c1 c2 h32
        go_upto_region 3 with (fail)
        refine wp_region_lit ?_
        refine wpList_build_val rfl 28 #[] rfl [] _ (by simp) built_draft0 ?_
        simp only [Act.put, List.setIfInBounds_toArray, List.set_cons_zero, List.set_cons_succ]
        refine wpList_store_cells rfl 28 _ _ rfl rfl w.heap.size (draftV zeroD) (draftV zeroD) 28 rfl rfl HX2.out HS.out rfl (draftV_all zeroD) ?_
        intro w9 hc hb
        have HX9 := Lib.hid hc.out
        have HB9 := Lib.hid (show Below w.heap.size w w9 from But.toBelow HB2.out hb.out (Nat.le_refl _) HB2.out.size)
        clear hc hb HX2 HB2
        go_wp2_with fail
        refine bodyPost_ret (results_cells_tmp rfl _ _ w.heap.size (draftV zeroD) 28 _ _ rfl rfl HX9.out Try.underlying28 rfl HS.out) rfl ?_
        exact ⟨by rw [HR.out]; rfl, HB9.out⟩
    · have hn4 : ((n : Int) == 4) = false := by simp; omega
      have HR := Shut.mk (readD_bad (s := s) (by intro a b c d h hd; rw [HL.out] at h; simp only [Option.some.injEq] at h; subst h; exact h4 (by rw [← hn]; rfl)))
      rw [hn]
      clear HSA hn
      go_upto_region 3 with (fail)
      refine wp_region_lit ?_
      refine wpList_build_val rfl 28 #[] rfl [] _ (by simp) built_draft0 ?_
      simp only [Act.put, List.setIfInBounds_toArray, List.set_cons_zero, List.set_cons_succ]
      refine wpList_store_cells rfl 28 _ _ rfl rfl w.heap.size (draftV zeroD) (draftV zeroD) 28 rfl rfl HX2.out HS.out rfl (draftV_all zeroD) ?_
      intro w9 hc hb
      have HX9 := Lib.hid hc.out
      have HB9 := Lib.hid (show Below w.heap.size w w9 from But.toBelow HB2.out hb.out (Nat.le_refl _) HB2.out.size)
      clear hc hb HX2 HB2
      go_wp2_with fail
      refine bodyPost_ret (results_cells_tmp rfl _ _ w.heap.size (draftV zeroD) 28 _ _ rfl rfl HX9.out Try.underlying28 rfl HS.out) rfl ?_
      exact ⟨by rw [HR.out]; rfl, HB9.out⟩
end Go.Proofs.Ytenmkfjgjemiiaa
namespace Go.Proofs.Ytenmkfjgjemiiaa
open Go.RowKit
def openN (k : List UInt8) : Nat := (rdNum k).1
theorem openN_lt (k : List UInt8) : openN k < 9223372036854775808 := by
  unfold openN rdNum
  cases h : takeNum k with
  | none => decide
  | some p => obtain ⟨n, r⟩ := p; exact takeNum_lt h
theorem openN_all {k : List UInt8} {n : Nat} (h : allNum k = some n) : openN k = n := by
  unfold allNum at h
  split at h
  · rename_i m hm
    simp only [Option.some.injEq] at h
    rw [openN, rdNum, hm, ← h]
  · cases h
theorem all_openN {k : List UInt8} (h : numB (openN k) = k) : allNum k = some (openN k) := by
  have := allNum_numB (openN_lt k)
  rwa [h] at this
def refP (r : List UInt8) : List Nat := byteNs (r.take 32) ++ (List.replicate 32 0).drop r.length
theorem refP_ok (r : List UInt8) : IdOk (refP r) := by
  refine ⟨?_, fun x hx => ?_⟩
  · rw [refP, List.length_append, byteNs_len, List.length_take, List.length_drop, List.length_replicate]
    omega
  · rcases List.mem_append.1 hx with hx | hx
    · exact byteNs_lt _ x hx
    · rw [(List.mem_replicate.1 (List.mem_of_mem_drop hx)).2]
      decide
theorem refP_full {r : List UInt8} (h : r.length = 32) : refP r = byteNs r := by
  rw [refP, List.take_of_length_le (by omega), List.drop_of_length_le (by rw [List.length_replicate]; omega), List.append_nil]
def devD (k key val r : List UInt8) : DraftN := ⟨openN k, key, val, refP r⟩
theorem readD_dev {s k key val r : List UInt8} (hs : splitB s = some [k, key, val, r]) :
    readD s = if GoodD (devD k key val r) ∧ draftB (devD k key val r) = s then some (devD k key val r) else none := by
  have hp := split_parts hs
  by_cases h : GoodD (devD k key val r) ∧ draftB (devD k key val r) = s
  · rw [if_pos h]
    have h1 := splitB_some hs
    have h2 : listB [numB (openN k), key, val, txt (refP r)] = listB [k, key, val, r] := by
      rw [h1]
      exact h.2
    have l1 := hp k (by simp)
    have l2 := hp key (by simp)
    have l3 := hp val (by simp)
    have l4 := hp r (by simp)
    have l5 := numB_len9 (openN_lt k)
    have l6 := (refP_ok r).1
    have h3 := listB_inj (by simp) (by simp) (fun t ht => by simp only [List.mem_cons, List.not_mem_nil, or_false] at ht; rcases ht with rfl | rfl | rfl | rfl <;> first | omega | (rw [txt_len]; omega)) (fun t ht => by simp only [List.mem_cons, List.not_mem_nil, or_false] at ht; rcases ht with rfl | rfl | rfl | rfl <;> omega) h2
    simp only [List.cons.injEq, and_true, true_and] at h3
    have hr : r.length = 32 := by rw [← h3.2, txt_len, l6]
    have e : (⟨(openN k : Int), key, val, byteNs r⟩ : DraftN) = devD k key val r := by rw [devD, refP_full hr]
    rw [readD_at hs hr (all_openN h3.1), e, if_pos h.1]
  · rw [if_neg h]
    cases hd : readD s with
    | none => rfl
    | some d =>
      exfalso
      have h1 := readD_some hd
      have e : d = devD k key val r := by
        unfold readD at hd
        rw [hs] at hd
        simp only at hd
        split at hd
        · rename_i hr
          split at hd
          · rename_i n hn
            split at hd
            · simp only [Option.some.injEq] at hd
              rw [← hd, devD, openN_all hn, refP_full hr]
            · cases hd
          · cases hd
        · cases hd
      rw [e] at h1
      exact h ⟨h1.2.1, h1.1⟩
end Go.Proofs.Ytenmkfjgjemiiaa
namespace Go.Proofs.Ytenmkfjgjemiiaa
open Go.RowKit
def devC : List (List UInt8) → EntN
  | [k, t] => if openN k = 1 then ⟨1, (readD t).getD noD, 0, 0, zeroI, 0, [], []⟩ else noE
  | [k, m, p] => if openN k = 3 then ⟨3, noD, 0, 0, zeroI, openN m, p, []⟩ else noE
  | [k, f, q, r, m, p, g] => if openN k = 2 then ⟨2, noD, openN f, openN q, refP r, openN m, p, g⟩ else noE
  | _ => noE
theorem numI_open {k : List UInt8} {n : Int} (h : numI k = n) (h0 : 0 ≤ n) : (openN k : Int) = n := by
  unfold numI at h
  split at h
  · rename_i m hm
    rw [openN_all hm, h]
  · omega
theorem devC_fit (l : List (List UInt8)) : (devC l).Fit := by
  have z : noE.Fit := ⟨noE_ok, by decide⟩
  have hd : ∀ t, IdOk ((readD t).getD noD).ref := fun t => by
    cases h : readD t with
    | none => exact zeroI_ok
    | some d => exact (readD_some h).2.2.1
  match l with
  | [] => exact z
  | [_] => exact z
  | [k, t] => simp only [devC]; split; exact ⟨⟨hd t, zeroI_ok⟩, z.seq⟩; exact z
  | [k, m, p] => simp only [devC]; split; exact ⟨⟨zeroI_ok, zeroI_ok⟩, z.seq⟩; exact z
  | [_, _, _, _] => exact z
  | [_, _, _, _, _] => exact z
  | [_, _, _, _, _, _] => exact z
  | [k, f, q, r, m, p, g] =>
    simp only [devC]
    split
    · exact ⟨⟨zeroI_ok, refP_ok r⟩, by have := openN_lt q; simp only; omega⟩
    · exact z
  | _ :: _ :: _ :: _ :: _ :: _ :: _ :: _ :: _ => exact z
theorem candE_dev {l : List (List UInt8)} (h : GoodE (candE l)) : candE l = devC l := by
  match l, h with
  | [], h => exact absurd h noE_bad
  | [_], h => exact absurd h noE_bad
  | [k, t], h =>
    simp only [candE, devC] at h ⊢
    by_cases hk : numI k = 1
    · rw [if_pos hk, if_pos (by have := numI_open hk (by decide); omega)]
    · rw [if_neg hk] at h
      exact absurd h noE_bad
  | [k, m, p], h =>
    simp only [candE, devC] at h ⊢
    by_cases hk : numI k = 3
    · rw [if_pos hk] at h
      rw [if_pos hk, if_pos (by have := numI_open hk (by decide); omega)]
      have hm : 0 ≤ numI m := by
        rcases h with h | h | h
        · exact absurd h.1 (by simp)
        · exact absurd h.1 (by simp)
        · have := h.2.1.1
          simp only at this
          omega
      rw [numI_open rfl hm]
    · rw [if_neg hk] at h
      exact absurd h noE_bad
  | [_, _, _, _], h => exact absurd h noE_bad
  | [_, _, _, _, _], h => exact absurd h noE_bad
  | [_, _, _, _, _, _], h => exact absurd h noE_bad
  | [k, f, q, r, m, p, g], h =>
    simp only [candE, devC] at h ⊢
    by_cases hk : numI k = 2 ∧ r.length = 32
    · rw [if_pos hk] at h
      rw [if_pos hk, if_pos (by have := numI_open hk.1 (by decide); omega)]
      rcases h with h | h | h
      · exact absurd h.1 (by simp)
      · obtain ⟨_, ⟨h1, _, _⟩, _, h4, _, h6, _⟩ := h
        simp only at h1 h4 h6
        rw [numI_open (k := f) rfl h4, numI_open (k := q) rfl (by omega), numI_open (k := m) rfl (by omega), refP_full hk.2]
      · exact absurd h.1 (by simp)
    · rw [if_neg hk] at h
      exact absurd h noE_bad
  | _ :: _ :: _ :: _ :: _ :: _ :: _ :: _ :: _, h => exact absurd h noE_bad
theorem readE_dev {s : List UInt8} {l : List (List UInt8)} (hs : splitB s = some l) : readE s = if entB (devC l) = s then some (devC l) else none := by
  by_cases h : entB (devC l) = s
  · rw [if_pos h]
    have h1 := readE_entB (devC_fit l)
    rw [h] at h1
    rw [h1, if_pos]
    refine Classical.byContradiction fun hb => ?_
    rw [entB_bad hb] at h
    have h2 := splitB_some hs
    rw [← h] at h2
    exact listB_ne _ h2
  · rw [if_neg h]
    cases hd : readE s with
    | none => rfl
    | some e =>
      exfalso
      have h1 := (readE_some hd).1
      unfold readE at hd
      rw [hs] at hd
      simp only at hd
      split at hd
      · rename_i hg
        simp only [Option.some.injEq] at hd
        rw [← hd, candE_dev hg] at h1
        exact h h1
      · cases hd
theorem readE_none {s : List UInt8} (hs : splitB s = none) : readE s = none := by rw [readE, hs]
theorem readE_split_nil {s : List UInt8} (hs : splitB s = some []) : readE s = none := by
  rw [readE_dev hs, if_neg]
  rw [show devC [] = noE from rfl, entB_bad noE_bad]
  intro h
  have h2 := splitB_some hs
  rw [← h] at h2
  exact listB_ne _ h2
end Go.Proofs.Ytenmkfjgjemiiaa
namespace Go.Proofs.Ytenmkfjgjemiiaa
open Go.RowKit
def NewR (s : Nat → Bool) (V : Nat → Value) (B i j : Nat) (r : List UInt8) (w : World) : Prop := s i = true → s j = false → ∃ g, V i = .pointer (some ⟨g, 0, none⟩) ∧ B ≤ g ∧ Rd g r false w
theorem NewR.none {V : Nat → Value} {B i j : Nat} {r : List UInt8} {w : World} : NewR (fun _ => false) V B i j r w := fun h => by cases h
theorem not_or_eq {s : Nat → Bool} {j k : Nat} (h : (s j || j == k) = false) : s j = false := by
  cases hs : s j with
  | false => rfl
  | true => rw [hs] at h; cases h
theorem NewR.turn {s : Nat → Bool} {V : Nat → Value} {B i j k : Nat} {r : List UInt8} {w w' : World} {u : Value} (h : NewR s V B i j r w) (hne : i ≠ k) (hk : s i = true → s j = false → ∀ g, Rd g r false w → Rd g r false w') : NewR (fun n => s n || n == k) (upd V k u) B i j r w' := fun hs hj => by
  obtain ⟨g, e, hg, hr⟩ := h (seen_ne hne hs) (not_or_eq hj)
  exact ⟨g, by rw [upd_ne V u hne]; exact e, hg, hk (seen_ne hne hs) (not_or_eq hj) g hr⟩
theorem NewR.ne {s : Nat → Bool} {V : Nat → Value} {B i j k : Nat} {r : List UInt8} {w w' : World} {u : Value} (h : NewR s V B i j r w) (hne : i ≠ k) (hb : Below w.heap.size w w') : NewR (fun n => s n || n == k) (upd V k u) B i j r w' := h.turn hne fun _ _ _ hr => hr.below hb
theorem NewR.same {s : Nat → Bool} {V : Nat → Value} {B i j g : Nat} {r : List UInt8} {w' : World} (hB : B ≤ g) (hr : Rd g r false w') : NewR (fun n => s n || n == i) (upd V i (.pointer (some ⟨g, 0, Option.none⟩))) B i j r w' :=
  fun _ _ => ⟨g, upd_same _ _ _, hB, hr⟩
theorem NewR.used {s : Nat → Bool} {V : Nat → Value} {B i j : Nat} {r : List UInt8} {w' : World} : NewR (fun n => s n || n == j) V B i j r w' := fun _ h => by simp at h
theorem Rd.notCells {b g : Nat} {s : List UInt8} {f : Bool} {t : TypeId} {cs : Array Value} {w : World} (h : Rd b s f w) (hc : Cells g t cs w) (hne : t ≠ 101) : g ≠ b := by
  rintro rfl
  have h1 : w.heap[g]? = _ := h
  have h2 : w.heap[g]? = _ := hc
  rw [h1] at h2
  simp only [Option.some.injEq, Obj.cells.injEq] at h2
  exact hne h2.2.1.symm
end Go.Proofs.Ytenmkfjgjemiiaa
namespace Go.Proofs.Ytenmkfjgjemiiaa
open Go.RowKit
theorem end_failed (b : Nat) (s : List UInt8) (w : World) (h : Rd b s true w) :
    Calls Try.prog 48 #[.pointer (some ⟨b, 0, none⟩)] w fun e w' => e = .returned (.int .i64 4) ∧ w' = w := by
  have g1 := h.cell1
  clear h
  go_enter Try.func48, Try.ntmps48
  go_wp2_with fail
  go_ret
  exact ⟨rfl, rfl⟩
theorem end_rest (b : Nat) (s : List UInt8) (w : World) (h : Rd b s false w) (hs : s ≠ []) :
    Calls Try.prog 48 #[.pointer (some ⟨b, 0, none⟩)] w fun e w' => e = .returned (.int .i64 4) ∧ w' = w := by
  have g0 := h.cell0
  have g1 := h.cell1
  have hne : (!s.isEmpty) = true := by cases s <;> simp_all
  clear h hs
  go_enter Try.func48, Try.ntmps48
  go_wp2_with fail
  go_ret
  exact ⟨rfl, rfl⟩
theorem end_ok (b : Nat) (w : World) (h : Rd b [] false w) :
    Calls Try.prog 48 #[.pointer (some ⟨b, 0, none⟩)] w fun e w' => e = .returned (.int .i64 0) ∧ w' = w := by
  have g0 := h.cell0
  have g1 := h.cell1
  clear h
  go_enter Try.func48, Try.ntmps48
  go_wp2_with fail
  go_ret
  exact ⟨rfl, rfl⟩
def endCode (s : List UInt8) (f : Bool) : Int := if f then 4 else if s = [] then 0 else 4
theorem end_any (b : Nat) (s : List UInt8) (f : Bool) (w : World) (h : Rd b s f w) :
    Calls Try.prog 48 #[.pointer (some ⟨b, 0, none⟩)] w fun e w' => e = .returned (.int .i64 (endCode s f)) ∧ w = w' := by
  unfold endCode
  cases f with
  | true => exact (end_failed b s w h).mono fun e w' ⟨he, hw⟩ => ⟨he, hw.symm⟩
  | false =>
    by_cases hs : s = []
    · subst hs; exact (end_ok b w h).mono fun e w' ⟨he, hw⟩ => ⟨he, hw.symm⟩
    · simp only [hs, if_false, Bool.false_eq_true]; exact (end_rest b s w h hs).mono fun e w' ⟨he, hw⟩ => ⟨he, hw.symm⟩
end Go.Proofs.Ytenmkfjgjemiiaa
namespace Go.Proofs
open Go.Shelf Go.RowKit
def Try.laysM316_ren : Go.Shelf.Ren := ⟨fun | 316 => 66 | n => n, fun | 9 => 9 | 3 => 3 | 4 => 4 | 37 => 53 | 0 => 0 | 127 => 99 | 5 => 5 | n => n, fun | n => n⟩
theorem Try.laysM316 : Go.Proofs.LaysM.n316 Try.prog Try.laysM316_ren := {
  mixed := by kernel_rfl
  f316 := Try.func66.trans (congrArg some (by kernel_rfl))
  t0 := Try.underlying0
  a0 := Try.isAgg0
  z0 := Try.sizeOf0
  v0 := Try.zeroValue0
  t3 := Try.underlying3
  a3 := Try.isAgg3
  z3 := Try.sizeOf3
  v3 := Try.zeroValue3
  t4 := Try.underlying4
  a4 := Try.isAgg4
  z4 := Try.sizeOf4
  v4 := Try.zeroValue4
  t9 := Try.underlying9
  a9 := Try.isAgg9
  z9 := Try.sizeOf9
  v9 := Try.zeroValue9
  t37 := Try.underlying53
  a37 := Try.isAgg53
  z37 := Try.sizeOf53
  v37 := Try.zeroValue53
  t127 := Try.underlying99
  a127 := Try.isAgg99
  z127 := Try.sizeOf99
  v127 := Try.zeroValue99
  t5 := Try.underlying5
  a5 := Try.isAgg5
  z5 := Try.sizeOf5
  v5 := Try.zeroValue5
  i0 := by kernel_rfl
  i3 := by kernel_rfl
  i4 := by kernel_rfl
  i5 := by kernel_rfl
  i9 := by kernel_rfl
  i37 := by kernel_rfl
  i127 := by kernel_rfl }
theorem Try.stringslite_Clone (s : ByteArray) (w : World) (hlim : s.size ≤ 281474976710656) :
    Calls Try.prog 66 #[.string s] w fun e w' => e = .returned (.string s) ∧ Below w.heap.size w w' := Any.stringslite_Clone Try.laysM316 s w hlim
end Go.Proofs
namespace Go.Proofs.Ytenmkfjgjemiiaa
open Go.RowKit
theorem clone_any (s : ByteArray) (w : World) (hlim : s.size ≤ 281474976710656) :
    Calls Try.prog 65 #[.string s] w fun e w' => e = .returned (.string s) ∧ Below w.heap.size w w' := by
  go_enter Try.func65, Try.ntmps65
  go_wp2_with fail
  refine (Try.stringslite_Clone s _ hlim).mono ?_
  rintro e w1 ⟨rfl, hb⟩
  have HB := Lib.hid hb
  clear hb
  go_wp2_with fail
  go_ret
  exact ⟨rfl, HB.out⟩
def rdTake (s : List UInt8) (f : Bool) (n : Nat) : List UInt8 × List UInt8 × Bool := if n ≤ s.length then (s.take n, s.drop n, f) else ([], [], true)
theorem take_any (b : Nat) (s : List UInt8) (f : Bool) (n : Nat) (w : World) (h : Rd b s f w) :
    Calls Try.prog 64 #[.pointer (some ⟨b, 0, none⟩), .int .i64 n] w fun e w' => e = .returned (.string ⟨(rdTake s f n).1.toArray⟩) ∧ Rd b (rdTake s f n).2.1 (rdTake s f n).2.2 w' ∧ But b w w' := by
  unfold rdTake
  by_cases hn : n ≤ s.length
  · simp only [hn, if_true]; exact take_some b s f n w h hn
  · simp only [hn, if_false]; exact take_few b s f n w h (by omega)
theorem rdTake_length (s : List UInt8) (f : Bool) (n : Nat) : (rdTake s f n).1.length ≤ s.length ∧ (rdTake s f n).2.1.length ≤ s.length := by
  unfold rdTake
  split <;> simp
  omega
theorem rdNum_length (s : List UInt8) : (rdNum s).2.1.length ≤ s.length := by
  unfold rdNum
  split
  · rename_i n r h; have := takeNum_len h; simp only; omega
  · simp
def rdText (s : List UInt8) : List UInt8 × List UInt8 × Bool := match takeText s with | some (t, r) => (t, r, false) | none => ([], [], true)
theorem rdText_eq (s : List UInt8) : rdText s = rdTake (rdNum s).2.1 (rdNum s).2.2 (rdNum s).1 := by
  unfold rdText takeText rdNum
  cases h : takeNum s with
  | none => simp [rdTake]
  | some p =>
    obtain ⟨n, r⟩ := p
    simp only [rdTake]
    by_cases hn : n ≤ r.length <;> simp [hn]
theorem rdText_length (s : List UInt8) : (rdText s).1.length ≤ s.length ∧ (rdText s).2.1.length ≤ s.length := by
  rw [rdText_eq]
  have := rdNum_length s
  have := rdTake_length (rdNum s).2.1 (rdNum s).2.2 (rdNum s).1
  omega
theorem rtext_any (b : Nat) (s : List UInt8) (f : Bool) (w : World) (h : Rd b s f w) (hf : f = true → s = []) (hs : s.length ≤ 262144) :
    Calls Try.prog 61 #[.pointer (some ⟨b, 0, none⟩)] w fun e w' => e = .returned (.string ⟨(rdText s).1.toArray⟩) ∧ Rd b (rdText s).2.1 (rdText s).2.2 w' ∧ But b w w' := by
  have hl := (rdText_length s).1
  rw [rdText_eq] at hl ⊢
  have H := Lib.hid h
  have HF := Lib.hid hf
  clear h hf
  go_enter Try.func61, Try.ntmps61
  go_wp2_with fail
  refine (rnum_any b s f _ H.out HF.out).mono ?_
  rintro e w1 ⟨rfl, h1, hb1⟩
  have H1 := Lib.hid h1
  have HB1 := Lib.hid hb1
  clear h1 hb1 H
  go_wp2_with fail
  refine (take_any b _ _ _ _ H1.out).mono ?_
  rintro e w2 ⟨rfl, h2, hb2⟩
  have HB2 := Lib.hid (HB1.out.trans hb2)
  have H2 := Lib.hid h2
  clear h2 hb2 HB1 H1
  go_wp2_with fail
  refine (clone_any _ _ (by show (List.toArray _).size ≤ _; simp; omega)).mono ?_
  rintro e w3 ⟨rfl, hb3⟩
  have H3 := Lib.hid (H2.out.below hb3)
  have HB3 := Lib.hid (HB2.out.below hb3)
  clear hb3 H2 HB2
  go_wp2_with fail
  go_ret
  exact ⟨rfl, H3.out, HB3.out⟩
end Go.Proofs.Ytenmkfjgjemiiaa
namespace Go.Proofs.Ytenmkfjgjemiiaa
open Go.RowKit
def rdList (s : List UInt8) : List (List UInt8) × List UInt8 × Bool := match takeList s with | some (l, r) => (l, r, false) | none => ([], [], true)
theorem rlist_many (b : Nat) (s : List UInt8) (f : Bool) (w : World) (h : Rd b s f w) (hf : f = true → s = []) (hn : 4096 < (rdNum s).1) (hlt : (rdNum s).1 < 9223372036854775808) :
    Calls Try.prog 47 #[.pointer (some ⟨b, 0, none⟩)] w fun e w' => e = .returned (.slice none 0 0) ∧ Rd b [] true w' ∧ But b w w' := by
  have H := Lib.hid h
  have HF := Lib.hid hf
  clear h hf
  go_enter Try.func47, Try.ntmps47
  go_wp2_with fail
  refine (rnum_any b s f _ H.out HF.out).mono ?_
  rintro e w1 ⟨rfl, h1, hb1⟩
  have H1 := Lib.hid h1
  have HB1 := Lib.hid hb1
  clear h1 hb1 H
  go_wp2_with fail
  refine (fail_any b _ _ _ H1.out).mono ?_
  rintro e w2 ⟨rfl, h2, hb2⟩
  have H2 := Lib.hid h2
  have HB2 := Lib.hid (HB1.out.trans hb2)
  clear h2 hb2 HB1 H1
  go_wp2_with fail
  go_ret
  exact ⟨rfl, H2.out, HB2.out⟩
def TextsPost (B b : Nat) (f1 : Bool) (o : Option (List (List UInt8) × List UInt8)) (v : Value) (w' : World) : Prop :=
  match o with
  | some (l, q) => OwnS B v l w' ∧ Rd b q f1 w'
  | none => v = .slice none 0 0 ∧ Rd b [] true w'
set_option maxHeartbeats 1000000 in
set_option maxRecDepth 100000 in
theorem rlist_texts (b : Nat) (s r : List UInt8) (f f1 : Bool) (n : Nat) (w : World) (h : Rd b s f w) (hf : f = true → s = []) (hs : s.length ≤ 262144) (hn : rdNum s = (n, r, f1)) (h4 : n ≤ 4096) (hf1 : f1 = true → n = 0 ∧ r = []) :
    Calls Try.prog 47 #[.pointer (some ⟨b, 0, none⟩)] w fun e w' => ∃ v, e = .returned v ∧ But b w w' ∧ TextsPost w.heap.size b f1 (takeTexts n r) v w' := by
  have hr : r.length ≤ 262144 := by have := rdNum_length s; rw [hn] at this; simp only at this; omega
  have hblt := h.lt
  have hcall := rnum_any b s f w h hf
  rw [hn] at hcall
  have HC := Lib.hid hcall
  have HF := Lib.hid hf1
  clear hcall hf hn hs h hf1
  obtain ⟨i0, hi, hz0, hz1, hz2⟩ := info_parts Try.infoString
  go_enter Try.func47, Try.ntmps47
  go_wp2_with fail
  refine HC.out.mono ?_
  rintro e w1 ⟨rfl, h1, hb1⟩
  have H1 := Lib.hid h1
  have HB1 := Lib.hid hb1
  clear h1 hb1 HC
  go_wp2_with fail
  go_loopw [4, 14] (fun v i wr => ∃ (q : Nat) (l : List (List UInt8)) (rest : List UInt8), q ≤ n ∧ i = .int .i64 q ∧ takeTexts q r = some (l, rest) ∧ OwnS w.heap.size v l wr ∧ Rd b rest f1 wr ∧ But b w wr) (fun _ i _ => n - (intOf i).toNat)
  case atStart => exact ⟨0, [], r, Nat.zero_le _, rfl, rfl, OwnS.nil _ _, H1.out, HB1.out⟩
  case round =>
    obtain ⟨q, l, rest, hq, rfl, htk, hown, hrd, hbut⟩ := hrel
    have hll : l.length = q := (takeTexts_some _ _ _ _ htk).2
    have hrest := takeTexts_len htk
    by_cases hlt : q < n
    · have f10 : f1 = false := by cases f1 with | false => rfl | true => have := (HF.out rfl).1; omega
      subst f10
      have HT := Lib.hid htk
      have HL := Lib.hid hll
      have HO := Lib.hid hown
      have HR := Lib.hid hrd
      have HB := Lib.hid hbut
      obtain ⟨ao, cap, hv⟩ := hown.form
      subst hv
      clear htk hll hown hrd hbut
      go_wp2_with fail
      refine (rtext_any b rest false _ HR.out (fun h => by cases h) (by omega)).mono ?_
      rintro e w2 ⟨rfl, h2, hb2⟩
      have H2 := Lib.hid h2
      have HB2 := Lib.hid (HB.out.trans hb2)
      have HO2 := Lib.hid (HO.out.but hb2 hblt)
      have hsz := hb2.size
      have hszw := HB.out.size
      have hll2 : l.length ≤ 4096 := by have := HL.out; omega
      clear h2 hb2 HB HO HR
      go_wp2_with (at_builtin; refine wpList_append_own _ rfl _ _ 61 rfl w.heap.size 9 i0 (.string ⟨#[]⟩) 1 16 Try.underlying61 hi hz0 hz1 hz2 rfl (by decide) _ _ _ rfl (World.ownsRow.alloc HO2.out _) ⟨w2.heap.size, 0, none⟩ 1 1 [.string ⟨(rdText rest).1.toArray⟩] rfl rfl ?c1 ?c2 ?c3 ?c4 ?c5 ?_)
      case c1 =>
        intro j u hj
        match j, hj with
        | 0, hj => simp at hj; subst hj; simp [Addr.add]
      case c2 => intro u hu; simp at hu; subst hu; rfl
      case c3 => unfold maxLen; omega
      case c4 => omega
      case c5 => simp; omega
      intro v' w3 hown' hgrow _
      have hrow : ∀ g, (Value.slice ao l.length cap).ownBlock = some g → w.heap.size ≤ g := fun g hg => (HO2.out.lt g hg).1
      have H3 := Lib.hid (show Rd b (rdText rest).2.1 (rdText rest).2.2 w3 from (hgrow.block b (by simp; omega) (fun e => by have := hrow b e.symm; omega)).trans ((Lib.alloc_old w2 _ b (by omega)).trans H2.out))
      have HB3 := Lib.hid (show But b w w3 from ⟨hgrow.os.trans HB2.out.os, hgrow.tape.trans HB2.out.tape, hgrow.output.trans HB2.out.output, by have := hgrow.size; simp at this; omega, fun k hk hkb => by
        rw [hgrow.block k (by simp; omega) (fun e => by have := hrow k e.symm; omega), Lib.alloc_old w2 _ k (by omega)]
        exact HB2.out.block k hk hkb⟩)
      have HO3 := Lib.hid (show OwnS w.heap.size v' (l ++ [(rdText rest).1]) w3 by
        unfold OwnS
        rw [strs_snoc, List.length_append]
        exact hown')
      have HTs := Lib.hid (takeTexts_succ q r)
      have g1 := H3.out.cell1
      clear hown' hgrow hrow H2 HB2 HO2 hsz hszw
      cases htt : takeText rest with
      | none =>
        have e3 : rdText rest = ([], [], true) := by simp only [rdText, htt]
        rw [e3] at H3 HO3 g1 ⊢
        have HN := Lib.hid (show takeTexts n r = none from takeTexts_none_mono (k := q + 1) (by rw [HTs.out, HT.out]; simp only [htt]) n (by omega))
        clear htt e3
        go_wp2_with fail
        go_ret
        refine ⟨_, rfl, HB3.out, ?_⟩
        rw [HN.out]
        exact ⟨rfl, H3.out⟩
      | some p =>
        obtain ⟨t, r2⟩ := p
        have e3 : rdText rest = (t, r2, false) := by simp only [rdText, htt]
        rw [e3] at H3 HO3 g1 ⊢
        have HN := Lib.hid (show takeTexts (q + 1) r = some (l ++ [t], r2) by rw [HTs.out, HT.out]; simp only [htt])
        clear htt e3
        go_wp2_with fail
        refine ⟨⟨q + 1, l ++ [t], r2, by omega, by go_num, HN.out, HO3.out, H3.out, HB3.out⟩, by simp [intOf]; omega⟩
    · obtain rfl : q = n := by omega
      have HT := Lib.hid htk
      have HO := Lib.hid hown
      have HR := Lib.hid hrd
      have HB := Lib.hid hbut
      clear htk hll hown hrd hbut
      go_wp2_with fail
      go_ret
      refine ⟨_, rfl, HB.out, ?_⟩
      rw [HT.out]
      exact ⟨HO.out, HR.out⟩
theorem rlist_any (b : Nat) (s : List UInt8) (f : Bool) (w : World) (h : Rd b s f w) (hf : f = true → s = []) (hs : s.length ≤ 262144) :
    Calls Try.prog 47 #[.pointer (some ⟨b, 0, none⟩)] w fun e w' => ∃ v, e = .returned v ∧ OwnS w.heap.size v (rdList s).1 w' ∧ Rd b (rdList s).2.1 (rdList s).2.2 w' ∧ But b w w' := by
  cases hn : takeNum s with
  | none =>
    have e1 : rdNum s = (0, [], true) := by simp only [rdNum, hn]
    have e2 : rdList s = ([], [], true) := by simp only [rdList, takeList, hn]
    rw [e2]
    refine (rlist_texts b s [] f true 0 w h hf hs e1 (by omega) (fun _ => ⟨rfl, rfl⟩)).mono ?_
    rintro e w' ⟨v, rfl, hb, ho, hr⟩
    exact ⟨v, rfl, ho, hr, hb⟩
  | some p =>
    obtain ⟨n, r⟩ := p
    have e1 : rdNum s = (n, r, false) := by simp only [rdNum, hn]
    by_cases h4 : n ≤ 4096
    · refine (rlist_texts b s r f false n w h hf hs e1 h4 (fun h => by cases h)).mono ?_
      rintro e w' ⟨v, rfl, hb, hm⟩
      have e2 : rdList s = (match takeTexts n r with | some (l, q) => (l, q, false) | none => ([], [], true)) := by
        simp only [rdList, takeList, hn, h4, if_true]
      rw [e2]
      cases ht : takeTexts n r with
      | none =>
        rw [ht] at hm
        obtain ⟨rfl, hr⟩ := hm
        exact ⟨_, rfl, OwnS.nil _ _, hr, hb⟩
      | some p =>
        obtain ⟨l, q⟩ := p
        rw [ht] at hm
        exact ⟨v, rfl, hm.1, hm.2, hb⟩
    · have e2 : rdList s = ([], [], true) := by simp only [rdList, takeList, hn, h4, if_false]
      rw [e2]
      refine (rlist_many b s f w h hf (by rw [e1]; simp only; omega) (by rw [e1]; exact takeNum_lt hn)).mono ?_
      rintro e w' ⟨rfl, hr, hb⟩
      exact ⟨_, rfl, OwnS.nil _ _, hr, hb⟩
end Go.Proofs.Ytenmkfjgjemiiaa
namespace Go.Proofs.Ytenmkfjgjemiiaa
open Go.RowKit
def SplitEnd (B : Nat) (o : Option (List (List UInt8))) (e : Ending) (w' : World) : Prop :=
  ∃ v, e = .returned (.tuple #[v, .int .i64 (if o.isSome then 0 else 4)]) ∧ OwnS B v (o.getD []) w'
theorem endCode_split {s : List UInt8} (hs : ¬ 262144 < s.length) : endCode (rdList s).2.1 (rdList s).2.2 = if (splitB s).isSome then 0 else 4 := by
  unfold splitB rdList endCode
  rw [if_neg hs]
  cases h : takeList s with
  | none => simp
  | some p =>
    obtain ⟨l, r⟩ := p
    cases r <;> simp
theorem rdList_split {s : List UInt8} {l : List (List UInt8)} (h : splitB s = some l) : (rdList s).1 = l := by
  unfold splitB at h
  split at h
  · cases h
  · unfold rdList
    cases ht : takeList s with
    | none => rw [ht] at h; cases h
    | some p =>
      obtain ⟨l', r⟩ := p
      rw [ht] at h
      cases r with
      | nil => simpa using h
      | cons => cases h
theorem split_long (s : List UInt8) (w : World) (hm : s.length ≤ 9223372036854775807) (h : 262144 < s.length) :
    Calls Try.prog 35 #[.string ⟨s.toArray⟩] w fun e w' => SplitEnd w.heap.size (splitB s) e w' ∧ Below w.heap.size w w' := by
  have e : splitB s = none := by simp only [splitB, h, if_true]
  rw [e]
  go_enter Try.func35, Try.ntmps35
  go_wp2_with fail
  refine (open_long s _ h hm).mono ?_
  rintro e w1 ⟨rfl, hr, hb⟩
  have HR := Lib.hid hr
  have HB := Lib.hid hb
  clear hr hb
  go_wp2_with fail
  have c := rlist_any _ [] true _ HR.out (fun _ => rfl) (by simp)
  rw [show rdList [] = ([], [], true) from rfl] at c
  refine c.mono ?_
  rintro e w2 ⟨v, rfl, ho, hr2, hb2⟩
  have HR2 := Lib.hid hr2
  have HB2 := Lib.hid (hb2.toBelow HB.out (Nat.le_refl _) HB.out.size)
  clear c ho hr2 hb2 HR HB
  go_wp2_with fail
  refine (end_failed _ _ _ HR2.out).mono ?_
  rintro e w3 ⟨rfl, rfl⟩
  go_wp2_with fail
  go_ret2
  exact ⟨⟨_, rfl, OwnS.nil _ _⟩, HB2.out⟩
theorem split_any (s : List UInt8) (w : World) (hm : s.length ≤ 9223372036854775807) :
    Calls Try.prog 35 #[.string ⟨s.toArray⟩] w fun e w' => SplitEnd w.heap.size (splitB s) e w' ∧ Below w.heap.size w w' := by
  by_cases hlong : 262144 < s.length
  · exact split_long s w hm hlong
  · have HE := Lib.hid (endCode_split hlong)
    go_enter Try.func35, Try.ntmps35
    go_wp2_with fail
    refine (open_ok s _ (by omega)).mono ?_
    rintro e w1 ⟨rfl, hr, hb⟩
    have HR := Lib.hid hr
    have HB := Lib.hid hb
    clear hr hb
    go_wp2_with fail
    refine (rlist_any _ s false _ HR.out (fun h => by cases h) (by omega)).mono ?_
    rintro e w2 ⟨v, rfl, ho, hr2, hb2⟩
    have HR2 := Lib.hid hr2
    have HB2 := Lib.hid (hb2.toBelow HB.out (Nat.le_refl _) HB.out.size)
    have HO2 := Lib.hid (ho.mono HB.out.size)
    obtain ⟨ao, cap, rfl⟩ := ho.form
    clear ho hr2 hb2 HR HB
    go_wp2_with fail
    have c := end_any _ _ _ _ HR2.out
    rw [HE.out] at c
    cases hs : splitB s with
    | none =>
      rw [hs] at c
      have HS := Lib.hid hs
      clear hs
      refine c.mono ?_
      rintro e w3 ⟨rfl, rfl⟩
      clear c
      simp only [Option.isSome_none]
      go_wp2_with fail
      go_ret2
      rw [HS.out]
      exact ⟨⟨_, rfl, OwnS.nil _ _⟩, HB2.out⟩
    | some l =>
      have HL := Lib.hid (rdList_split hs)
      rw [hs] at c
      have HS := Lib.hid hs
      clear hs
      refine c.mono ?_
      rintro e w3 ⟨rfl, rfl⟩
      clear c
      simp only [Option.isSome_some]
      go_wp2_with fail
      go_ret2
      rw [HS.out]
      refine ⟨⟨_, rfl, ?_⟩, HB2.out⟩
      simp only [Option.getD_some]
      rw [← HL.out]
      exact HO2.out
end Go.Proofs.Ytenmkfjgjemiiaa
namespace Go.Proofs.Ytenmkfjgjemiiaa
open Go.RowKit Go.BigFrame
def DrD (o : Option DraftN) : Value := .tuple #[.agg (draftV (o.getD zeroD)), .int .i64 (if o.isSome then 0 else 4)]
theorem readD_parts4 {s : List UInt8} (h : ∀ k key val r, splitB s = some [k, key, val, r] → False) : readD s = none := by
  unfold readD
  split
  · rename_i k key val r hs
    exact (h k key val r hs).elim
  · rfl
theorem built_draft3 (k : Int) (a b : List UInt8) : Try.prog.built 28 [(0, .int .i64 k), (1, .string ⟨a.toArray⟩), (2, .string ⟨b.toArray⟩)] = some (draftV ⟨k, a, b, zeroI⟩) := by
  rw [draft_fill]
  refine (fill_lay placeD 0 0 1 _ _ [] [.int .i64 0] (.string ⟨#[]⟩ :: .string ⟨#[]⟩ :: nums .u8 zeroI) [.int .i64 k] rfl rfl rfl rfl rfl).trans ?_
  refine (fill_lay placeD 1 1 1 _ _ [.int .i64 k] [.string ⟨#[]⟩] (.string ⟨#[]⟩ :: nums .u8 zeroI) [.string ⟨a.toArray⟩] rfl rfl rfl rfl rfl).trans ?_
  refine (fill_lay placeD 2 2 1 (.string ⟨b.toArray⟩) [] [.int .i64 k, .string ⟨a.toArray⟩] [.string ⟨#[]⟩] (nums .u8 zeroI) [.string ⟨b.toArray⟩] rfl rfl rfl rfl rfl).trans ?_
  rw [fill_end]
  rfl
theorem draft_lay (k : Int) (a b r : List UInt8) : layV (draftL ⟨k, a, b, zeroI⟩) 3 (nums .u8 (byteNs (r.take 32))) = draftL ⟨k, a, b, refP r⟩ := by
  have hl : (nums .u8 (byteNs (r.take 32))).length = min 32 r.length := by rw [nums_len, byteNs_len, List.length_take]
  have hd : ∀ l : List Nat, draftL ⟨k, a, b, l⟩ = [.int .i64 k, .string ⟨a.toArray⟩, .string ⟨b.toArray⟩] ++ nums .u8 l := fun l => rfl
  have h0 : (draftL ⟨k, a, b, zeroI⟩).length = 35 := draftL_len rfl
  refine List.ext_getElem? fun j => ?_
  rw [layV_get _ _ _ _ (by rw [hl, h0]; omega), hl, hd, hd]
  by_cases h3 : j < 3
  · rw [if_neg (by omega), List.getElem?_append_left (by simpa using h3), List.getElem?_append_left (by simpa using h3)]
  · rw [List.getElem?_append_right (by simpa using Nat.le_of_not_lt h3), List.getElem?_append_right (by simpa using Nat.le_of_not_lt h3)]
    have e : ∀ x y : List Nat, nums .u8 (x ++ y) = nums .u8 x ++ nums .u8 y := fun x y => by simp [nums]
    rw [show ([Value.int .i64 k, .string ⟨a.toArray⟩, .string ⟨b.toArray⟩] : List Value).length = 3 from rfl, refP, e]
    by_cases hj : j < 3 + min 32 r.length
    · rw [if_pos (by omega), List.getElem?_append_left (by rw [hl]; omega)]
    · rw [if_neg (by omega), List.getElem?_append_right (by rw [hl]; omega), hl]
      simp only [nums, zeroI, List.getElem?_map, List.getElem?_drop, List.getElem?_replicate]
      by_cases h35 : j - 3 < 32
      · rw [if_pos h35, if_pos (by omega)]
      · rw [if_neg h35, if_neg (by omega)]
set_option maxHeartbeats 4000000 in
set_option maxRecDepth 100000 in
theorem dev_readDraft (s : List UInt8) (w : World) (hm : s.length ≤ 1000000) :
    Calls Try.prog 50 #[.string ⟨s.toArray⟩] w fun e w' => e = .returned (DrD (readD s)) ∧ Below w.heap.size w w' := by
  have hsz : (Try.prog.info? 28).map (·.size) = some (draftV zeroD).size := Try.sizeD
  have HS := Lib.hid hsz
  have HM := Lib.hid hm
  clear hsz hm
  go_enter Try.func50, Try.ntmps50
  go_upto_region 1 with (fail)
  have hx : Cells w.heap.size 28 (draftV zeroD) (w.alloc (.cells (draftV zeroD) 28)) := heap_alloc_new w _
  have hb : Below w.heap.size w (w.alloc (.cells (draftV zeroD) 28)) := (Below.refl _ _).alloc (Nat.le_refl _) _
  rw [zeroD_lit] at hx hb
  obtain ⟨w1, hw1⟩ : ∃ x, x = w.alloc (.cells (draftV zeroD) 28) := ⟨_, rfl⟩
  rw [zeroD_lit] at hw1
  rw [← hw1] at hx hb ⊢
  rw [← zeroD_lit] at hx
  have HX := Lib.hid hx
  have HB := Lib.hid hb
  clear hw1 hx hb
  go_wp2_with fail
  obtain ⟨q, hq⟩ : ∃ q, splitB s = q := ⟨_, rfl⟩
  have HL := Shut.mk hq
  have hcc := split_any s w1 (by have := HM.out; omega)
  rw [hq] at hcc
  clear hq
  refine hcc.mono ?_
  rintro e w2 ⟨⟨v, rfl, ho⟩, hb⟩
  obtain ⟨ao, cq, rfl⟩ := ho.form
  have HX2 := Lib.hid (HX.out.below hb)
  have HB2 := Lib.hid (HB.out.trans (hb.mono HB.out.size))
  have HSA := Lib.hid (strsAt_own ho)
  clear hcc ho hb HX HB
  cases q with
  | none =>
    simp only [Option.getD_none, List.length_nil, Option.isSome_none]
    have HR := Shut.mk (readD_parts4 (s := s) (by intro k key val r h; rw [HL.out] at h; cases h))
    clear HSA
    go_upto_region 3 with (fail)
    refine wp_region_lit ?_
    refine wpList_build_val rfl 28 #[] rfl [] _ (by simp) built_draft0 ?_
    simp only [Act.put, List.setIfInBounds_toArray, List.set_cons_zero, List.set_cons_succ]
    refine wpList_store_cells rfl 28 _ _ rfl rfl w.heap.size (draftV zeroD) (draftV zeroD) 28 rfl rfl HX2.out HS.out rfl (draftV_all zeroD) ?_
    intro wf hc hb
    have HXF := Lib.hid hc.out
    have HBF := Lib.hid (show Below w.heap.size w wf from But.toBelow HB2.out hb.out (Nat.le_refl _) HB2.out.size)
    clear hc hb HX2 HB2
    go_wp2_with fail
    refine bodyPost_ret (results_cells_tmp rfl _ _ w.heap.size (draftV zeroD) 28 _ _ rfl rfl HXF.out Try.underlying28 rfl HS.out) rfl ?_
    exact ⟨by rw [HR.out]; rfl, HBF.out⟩
  | some l =>
    simp only [Option.getD_some, Option.isSome_some] at HSA ⊢
    obtain ⟨n, hn⟩ : ∃ n, l.length = n := ⟨_, rfl⟩
    by_cases h4 : n = 4
    · rw [hn]
      subst h4
      obtain ⟨k, key, val, r, rfl⟩ : ∃ a b c d, l = [a, b, c, d] := by
        match l, hn with
        | [a, b, c, d], _ => exact ⟨a, b, c, d, rfl⟩
      have HLR := Lib.hid (split_parts HL.out)
      obtain ⟨g, og, rfl, hg, c0, c1, c2, c3⟩ := strs4 HSA.out
      have HG3 := Lib.hid hg
      have HD0 := Lib.hid c0
      have HD1 := Lib.hid c1
      have HD2 := Lib.hid c2
      have HD3 := Lib.hid c3
      clear hn HSA hg c0 c1 c2 c3
      go_upto_region 4 with (fail)
      obtain ⟨x, hxn⟩ : ∃ x, openN k = x := ⟨_, rfl⟩
      have HXN := Shut.mk hxn
      obtain ⟨d0, hd0⟩ : ∃ d : DraftN, d = ⟨(x : Int), key, val, zeroI⟩ := ⟨_, rfl⟩
      have HDD := Shut.mk hd0
      have hdr : d0.ref.length = 32 := by rw [hd0]; rfl
      have HDR := Lib.hid hdr
      have HKL := Lib.hid (show k.length ≤ 262144 from HLR.out k (by simp))
      have HI0 := Lib.hid (show ∀ w, (Instr.indexAt 61 (.slice (some ⟨g, og, none⟩) 4 cq) (.int .i64 0)).run Try.prog w = .ok (.pointer (some ⟨g, og, none⟩)) w from fun w => by go_simp)
      have HI1 := Lib.hid (show ∀ w, (Instr.indexAt 61 (.slice (some ⟨g, og, none⟩) 4 cq) (.int .i64 1)).run Try.prog w = .ok (.pointer (some ⟨g, og + 1, none⟩)) w from fun w => by go_simp)
      have HI2 := Lib.hid (show ∀ w, (Instr.indexAt 61 (.slice (some ⟨g, og, none⟩) 4 cq) (.int .i64 2)).run Try.prog w = .ok (.pointer (some ⟨g, og + 2, none⟩)) w from fun w => by go_simp)
      have HAL := Lib.hid (show ∀ w : World, (Instr.alloc 28 true (.tuple #[])).run Try.prog w = .ok (.pointer (some ⟨w.heap.size, 0, none⟩)) (w.alloc (.cells (draftV zeroD) 28)) from fun w => by kernel_rfl)
      have HBD := Lib.hid (show ∀ w, (Instr.build 28 ([(0, .int .i64 (x : Int)), (1, .string ⟨key.toArray⟩), (2, .string ⟨val.toArray⟩)] : List (Nat × Value)).toArray).run Try.prog w = .ok (.agg (draftV d0)) w from fun w => by
        have hb := built_draft3 (x : Int) key val
        rw [← HDD.out] at hb
        exact run_build w 28 _ _ hb)
      have HDZ := Lib.hid (show Below w2.heap.size w2 w2.drew from (Below.refl _ _).drew)
      have HSD := Lib.hid (show (Try.prog.info? 28).map (·.size) = some (draftV d0).size by rw [draftV_size HDR.out]; exact Try.sizeD)
      have HSZ := Lib.hid (show (draftV zeroD).size = (draftV d0).size by rw [draftV_size HDR.out]; rfl)
      clear hd0 hdr hxn
      refine wp_region_free 13 (fun q V w' => Val q V 0 (.slice (some ⟨g, og, none⟩) 4 cq) ∧ Val q V 1 (.pointer (some ⟨g, og, none⟩)) ∧ Val q V 2 (.string ⟨k.toArray⟩) ∧ Val q V 4 (.int .i64 (x : Int)) ∧ Val q V 5 (.slice (some ⟨g, og, none⟩) 4 cq) ∧ Val q V 6 (.pointer (some ⟨g, og + 1, none⟩)) ∧ Val q V 7 (.string ⟨key.toArray⟩) ∧ Val q V 8 (.slice (some ⟨g, og, none⟩) 4 cq) ∧ Val q V 9 (.pointer (some ⟨g, og + 2, none⟩)) ∧ Val q V 10 (.string ⟨val.toArray⟩) ∧ Val q V 11 (.agg (draftV d0)) ∧ NewC q V w2.heap.size 12 28 (draftV zeroD) w' ∧ Below w2.heap.size w2 w' ∧ NewR q V w2.heap.size 3 4 k w') (fun _ => undef) (by kernel_rfl) (by kernel_rfl) (by kernel_rfl) (by simp only [List.take_succ_cons, List.take_zero, putAll, Act.put, List.setIfInBounds_toArray, List.set_cons_zero, List.set_cons_succ]) ⟨Val.none, Val.none, Val.none, Val.none, Val.none, Val.none, Val.none, Val.none, Val.none, Val.none, Val.none, NewC.none, HDZ.out, NewR.none⟩ ?_ ?_
      · simp only [List.take_succ_cons, List.take_zero, putAll, Nat.zero_add, Nat.reduceAdd, Act.put, List.setIfInBounds_toArray, List.set_cons_zero, List.set_cons_succ]
        refine FreeSteps.cons ?_ (FreeSteps.cons ?_ (FreeSteps.cons ?_ (FreeSteps.cons ?_ (FreeSteps.cons ?_ (FreeSteps.cons ?_ (FreeSteps.cons ?_ (FreeSteps.cons ?_ (FreeSteps.cons ?_ (FreeSteps.cons ?_ (FreeSteps.cons ?_ (FreeSteps.cons ?_ (FreeSteps.cons ?_ (FreeSteps.nil)))))))))))))
        all_goals (refine FreeStep.fresh rfl ?_; rintro q V wq hr hu ⟨h0, h1, h2, h4, h5, h6, h7, h8, h9, h10, h11, h12, hb, hR⟩ K hK)
        · exact op_move (.tmp 4) rfl _ rfl (hK _ _ ⟨.same, h1.ne (by decide), h2.ne (by decide), h4.ne (by decide), h5.ne (by decide), h6.ne (by decide), h7.ne (by decide), h8.ne (by decide), h9.ne (by decide), h10.ne (by decide), h11.ne (by decide), h12.ne (by decide) (Below.refl _ _), hb, hR.ne (by decide) (Below.refl _ _)⟩)
        · exact op_indexAt 61 (.tmp 20) (.const (.int .i64 0)) rfl _ _ _ (h0 (hr { on := 0, ground := .data } (by simp) rfl)) rfl HI0.out (hK _ _ ⟨h0.ne (by decide), .same, h2.ne (by decide), h4.ne (by decide), h5.ne (by decide), h6.ne (by decide), h7.ne (by decide), h8.ne (by decide), h9.ne (by decide), h10.ne (by decide), h11.ne (by decide), h12.ne (by decide) (Below.refl _ _), hb, hR.ne (by decide) (Below.refl _ _)⟩)
        · exact op_load_cell 9 (.tmp 21) rfl _ _ (h1 (hr { on := 1, ground := .data } (by simp) rfl)) ((hb.cell (p := ⟨g, og, none⟩) HG3.out).trans HD0.out) Try.isAgg9 (hK _ _ ⟨h0.ne (by decide), h1.ne (by decide), .same, h4.ne (by decide), h5.ne (by decide), h6.ne (by decide), h7.ne (by decide), h8.ne (by decide), h9.ne (by decide), h10.ne (by decide), h11.ne (by decide), h12.ne (by decide) (Below.refl _ _), hb, hR.ne (by decide) (Below.refl _ _)⟩)
        · refine op_call Try.func46 rfl rfl rfl [.string ⟨k.toArray⟩] (congrArg (fun x => [x]) (h2 (hr { on := 2, ground := .data } (by simp) rfl))) (open_ok k wq HKL.out) ?_
          rintro e w' ⟨rfl, hrd, hb'⟩
          exact ⟨_, rfl, (hK _ _ ⟨h0.ne (by decide), h1.ne (by decide), h2.ne (by decide), h4.ne (by decide), h5.ne (by decide), h6.ne (by decide), h7.ne (by decide), h8.ne (by decide), h9.ne (by decide), h10.ne (by decide), h11.ne (by decide), h12.ne (by decide) hb', hb.trans (hb'.mono hb.size), .same hb.size hrd⟩)⟩
        · obtain ⟨gr, hgr, hbg, hrd⟩ := hR (hr { on := 3, ground := .data } (by simp) rfl) hu
          refine op_call Try.func60 rfl rfl rfl [.pointer (some ⟨gr, 0, none⟩)] (congrArg (fun x => [x]) hgr) (rnum_any gr k false wq hrd (fun h => by cases h)) ?_
          rintro e w' ⟨rfl, hrd', hbt⟩
          have hBT : Below w2.heap.size w2 w' := But.toBelow hb hbt hbg hb.size
          have hT : ∀ g t cs, t ≠ 101 → Cells g t cs wq → Cells g t cs w' := fun g t cs ht hc => hc.but hbt (hrd.notCells hc ht)
          refine ⟨_, rfl, ?_⟩
          rw [show (rdNum k).1 = x from HXN.out]
          exact (hK _ _ ⟨h0.ne (by decide), h1.ne (by decide), h2.ne (by decide), .same, h5.ne (by decide), h6.ne (by decide), h7.ne (by decide), h8.ne (by decide), h9.ne (by decide), h10.ne (by decide), h11.ne (by decide), h12.turn (by decide) (fun g => hT g _ _ (by decide)), hBT, .used⟩)
        · exact op_move (.tmp 4) rfl _ rfl (hK _ _ ⟨h0.ne (by decide), h1.ne (by decide), h2.ne (by decide), h4.ne (by decide), .same, h6.ne (by decide), h7.ne (by decide), h8.ne (by decide), h9.ne (by decide), h10.ne (by decide), h11.ne (by decide), h12.ne (by decide) (Below.refl _ _), hb, hR.ne (by decide) (Below.refl _ _)⟩)
        · exact op_indexAt 61 (.tmp 25) (.const (.int .i64 1)) rfl _ _ _ (h5 (hr { on := 5, ground := .data } (by simp) rfl)) rfl HI1.out (hK _ _ ⟨h0.ne (by decide), h1.ne (by decide), h2.ne (by decide), h4.ne (by decide), h5.ne (by decide), .same, h7.ne (by decide), h8.ne (by decide), h9.ne (by decide), h10.ne (by decide), h11.ne (by decide), h12.ne (by decide) (Below.refl _ _), hb, hR.ne (by decide) (Below.refl _ _)⟩)
        · exact op_load_cell 9 (.tmp 26) rfl _ _ (h6 (hr { on := 6, ground := .data } (by simp) rfl)) ((hb.cell (p := ⟨g, og + 1, none⟩) HG3.out).trans HD1.out) Try.isAgg9 (hK _ _ ⟨h0.ne (by decide), h1.ne (by decide), h2.ne (by decide), h4.ne (by decide), h5.ne (by decide), h6.ne (by decide), .same, h8.ne (by decide), h9.ne (by decide), h10.ne (by decide), h11.ne (by decide), h12.ne (by decide) (Below.refl _ _), hb, hR.ne (by decide) (Below.refl _ _)⟩)
        · exact op_move (.tmp 4) rfl _ rfl (hK _ _ ⟨h0.ne (by decide), h1.ne (by decide), h2.ne (by decide), h4.ne (by decide), h5.ne (by decide), h6.ne (by decide), h7.ne (by decide), .same, h9.ne (by decide), h10.ne (by decide), h11.ne (by decide), h12.ne (by decide) (Below.refl _ _), hb, hR.ne (by decide) (Below.refl _ _)⟩)
        · exact op_indexAt 61 (.tmp 28) (.const (.int .i64 2)) rfl _ _ _ (h8 (hr { on := 8, ground := .data } (by simp) rfl)) rfl HI2.out (hK _ _ ⟨h0.ne (by decide), h1.ne (by decide), h2.ne (by decide), h4.ne (by decide), h5.ne (by decide), h6.ne (by decide), h7.ne (by decide), h8.ne (by decide), .same, h10.ne (by decide), h11.ne (by decide), h12.ne (by decide) (Below.refl _ _), hb, hR.ne (by decide) (Below.refl _ _)⟩)
        · exact op_load_cell 9 (.tmp 29) rfl _ _ (h9 (hr { on := 9, ground := .data } (by simp) rfl)) ((hb.cell (p := ⟨g, og + 2, none⟩) HG3.out).trans HD2.out) Try.isAgg9 (hK _ _ ⟨h0.ne (by decide), h1.ne (by decide), h2.ne (by decide), h4.ne (by decide), h5.ne (by decide), h6.ne (by decide), h7.ne (by decide), h8.ne (by decide), h9.ne (by decide), .same, h11.ne (by decide), h12.ne (by decide) (Below.refl _ _), hb, hR.ne (by decide) (Below.refl _ _)⟩)
        · exact op_build 28 #[(0, .tmp 24), (1, .tmp 27), (2, .tmp 30)] rfl [(0, .int .i64 (x : Int)), (1, .string ⟨key.toArray⟩), (2, .string ⟨val.toArray⟩)] (draftV d0) (by
              have v4 := (h4 (hr { on := 4, ground := .data } (by simp) rfl))
              have v7 := (h7 (hr { on := 7, ground := .data } (by simp) rfl))
              have v10 := (h10 (hr { on := 10, ground := .data } (by simp) rfl))
              rw [List.map_toArray]
              show [((0 : Nat), V 4), (1, V 7), (2, V 10)].toArray = _
              rw [v4, v7, v10]) HBD.out (hK _ _ ⟨h0.ne (by decide), h1.ne (by decide), h2.ne (by decide), h4.ne (by decide), h5.ne (by decide), h6.ne (by decide), h7.ne (by decide), h8.ne (by decide), h9.ne (by decide), h10.ne (by decide), .same, h12.ne (by decide) (Below.refl _ _), hb, hR.ne (by decide) (Below.refl _ _)⟩)
        · exact op_alloc 28 rfl (draftV zeroD) HAL.out (hK _ _ ⟨h0.ne (by decide), h1.ne (by decide), h2.ne (by decide), h4.ne (by decide), h5.ne (by decide), h6.ne (by decide), h7.ne (by decide), h8.ne (by decide), h9.ne (by decide), h10.ne (by decide), h11.ne (by decide), .same hb.size, hb.alloc hb.size _, hR.ne (by decide) ((Below.refl _ _).alloc (Nat.le_refl _) _)⟩)
      rintro q V wq hall ⟨h0, h1, h2, h4, h5, h6, h7, h8, h9, h10, h11, h12, hb, hR⟩
      have v0 := h0 (hall 0 (by decide))
      have v1 := h1 (hall 1 (by decide))
      have v2 := h2 (hall 2 (by decide))
      obtain ⟨u3, v3⟩ : ∃ v, V 3 = v := ⟨_, rfl⟩
      have v4 := h4 (hall 4 (by decide))
      have v5 := h5 (hall 5 (by decide))
      have v6 := h6 (hall 6 (by decide))
      have v7 := h7 (hall 7 (by decide))
      have v8 := h8 (hall 8 (by decide))
      have v9 := h9 (hall 9 (by decide))
      have v10 := h10 (hall 10 (by decide))
      have v11 := h11 (hall 11 (by decide))
      obtain ⟨g12, v12, hg12, hc12⟩ := h12 (hall 12 (by decide))
      simp only [List.take_succ_cons, List.take_zero, List.drop_succ_cons, List.drop_zero, putAll, Nat.zero_add, Nat.reduceAdd, v0, v1, v2, v3, v4, v5, v6, v7, v8, v9, v10, v11, v12, Act.put, List.setIfInBounds_toArray, List.set_cons_zero, List.set_cons_succ]
      clear h0 h1 h2 h4 h5 h6 h7 h8 h9 h10 h11 v0 v1 v2 v3 v4 v5 v6 v7 v8 v9 v10 v11 v12 hall
      have HG12 := Lib.hid hg12
      have HC12 := Lib.hid hc12
      have HB5 := Lib.hid hb
      have HNE := Lib.hid (show w.heap.size ≠ g12 from by have h1 := HX2.out.lt; omega)
      clear HI0 HI1 HI2 HAL HBD HDZ hg12 hc12 hb hR HD0 HD1 HD2
      refine wpList_store_cells rfl 28 (.tmp 6) (.tmp 31) rfl rfl g12 _ (draftV d0) 28 rfl rfl HC12.out HSD.out HSZ.out (draftV_all d0) ?_
      intro w5 hc hb
      have HV := Lib.hid hc.out
      have HX5 := Lib.hid ((HX2.out.below HB5.out).but hb.out HNE.out)
      have HBW := Lib.hid (HB2.out.trans ((But.toBelow HB5.out hb.out HG12.out HB5.out.size).mono HB2.out.size))
      have HGL := Lib.hid (show g < w5.heap.size from Nat.lt_of_lt_of_le HG3.out (Nat.le_trans HB5.out.size hb.out.size))
      have HGN := Lib.hid (show g ≠ g12 from by have h1 := HG3.out; have h2 := HG12.out; omega)
      have HE3 := Lib.hid (show w5.cell? ⟨g, og + 3, none⟩ = some (.string ⟨r.toArray⟩) from (World.cell?_of_block (w := wq) (a := ⟨g, og + 3, none⟩) (hb.out.block g (Nat.lt_of_lt_of_le HG3.out HB5.out.size) HGN.out)).trans ((HB5.out.cell (p := ⟨g, og + 3, none⟩) HG3.out).trans HD3.out))
      have HWG := Lib.hid (show w2.heap.size ≤ g12 from HG12.out)
      clear hc hb HC12 HB5 HX2 HSZ HD3 HG3 HG12
      obtain ⟨d, hd⟩ : ∃ d : DraftN, d = ⟨(x : Int), key, val, refP r⟩ := ⟨_, rfl⟩
      have HDE := Shut.mk hd
      have hok : IdOk d.ref := by rw [hd]; exact refP_ok r
      have HOK := Lib.hid hok
      have HSE := Lib.hid (show (Try.prog.info? 28).map (·.size) = some (draftV d).size by rw [draftV_size hok.1]; exact Try.sizeD)
      have HSY := Lib.hid (show (draftV zeroD).size = (draftV d).size by rw [draftV_size hok.1]; rfl)
      clear hd hok
      go_upto_region 5 with (fail)
      have HI3 := Lib.hid (show ∀ w, (Instr.indexAt 61 (.slice (some ⟨g, og, none⟩) 4 cq) (.int .i64 3)).run Try.prog w = .ok (.pointer (some ⟨g, og + 3, none⟩)) w from fun w => by go_simp)
      have HQ3 := Lib.hid (fun (w' : World) (q : Below w5.heap.size w5 w') => (q.cell (p := ⟨g, og + 3, none⟩) HGL.out).trans HE3.out)
      refine wp_region_class_tail (fun w' => Below w5.heap.size w5 w') 5 (by kernel_rfl) (by kernel_rfl) (Below.refl _ _).drew ?_
      simp only [List.take_succ_cons, List.take_zero, List.drop_succ_cons, List.drop_zero]
      repeat (first
        | (go_big_quiet_want; refine quiet_load_cell 9 _ rfl ⟨g, og + 3, none⟩ _ rfl HQ3.out Try.isAgg9 ?_; go_big_quiet_on; simp only [Act.put, List.setIfInBounds_toArray, List.set_cons_zero, List.set_cons_succ])
        | go_big_quiet_step ((intro hs'; rfl)))
      refine wpQuiet_nil ?_
      intro w6 hs6
      have hv6 := HV.out.below hs6
      have HX6 := Lib.hid (HX5.out.below hs6)
      have HB6 := Lib.hid (HBW.out.trans (hs6.mono HBW.out.size))
      clear hs6 HX5 HBW HI3 HQ3 HE3
      refine wpList_copy_text rfl (.tmp 33) (.tmp 36) 53 9 rfl 5 Try.underlying53 (by kernel_rfl) g12 3 32 32 r rfl rfl (fun j hj => by
        rw [hv6.at, Array.getElem?_eq_getElem (by rw [draftV_size HDR.out]; omega)]
        rfl) (fun j _ => hv6.frozen _) ?_
      have hl6 := Cells.lay (nums .u8 (byteNs (r.take 32))) (draftL d0) 3 w6 hv6
      rw [show layV (draftL d0) 3 (nums .u8 (byteNs (r.take 32))) = draftL d by rw [HDD.out, HDE.out]; exact draft_lay _ _ _ _] at hl6
      have hbt := But.cells (nums .u8 (byteNs (r.take 32))) 3 w6 (But.refl g12 w6)
      obtain ⟨w7, hw7⟩ : ∃ x, x = w6.setCells g12 3 (nums .u8 (byteNs (r.take 32))) := ⟨_, rfl⟩
      rw [← hw7] at hl6 hbt ⊢
      have HV7 := Lib.hid (show Cells g12 28 (draftV d) w7 from hl6)
      have HX7 := Lib.hid (HX6.out.but hbt HNE.out)
      have HB7 := Lib.hid (But.toBelow HB6.out hbt (Nat.le_trans HB2.out.size HWG.out) HB6.out.size)
      clear hw7 hl6 hbt hv6 HX6 HB6 HV
      simp only [Act.put, List.setIfInBounds_toArray, List.set_cons_zero, List.set_cons_succ]
      have HR0 := Shut.mk (show readD s = if GoodD d ∧ draftB d = s then some d else none by
        have h := readD_dev HL.out
        rw [devD, HXN.out, ← HDE.out] at h
        exact h)
      have hkd : d.key.length ≤ 262144 := by rw [HDE.out]; exact HLR.out key (by simp)
      have hvd : d.val.length ≤ 262144 := by rw [HDE.out]; exact HLR.out val (by simp)
      have HGD := Lib.hid (fun w' => dev_goodDraft d HOK.out (by omega) (by omega) w')
      clear hkd hvd HL HDD HDE HXN HLR HKL HDR HSD
      obtain ⟨z, hz⟩ : ∃ z, decide (GoodD d) = z := ⟨_, rfl⟩
      have HZ := Shut.mk hz
      rw [hz] at HGD
      clear hz
      go_upto_region 6 with (fail)
      go_wp2_with (refine wpList_load_cells rfl 28 _ rfl g12 (draftV d) 28 _ rfl HV7.out Try.underlying28 rfl HSE.out ?_)
      refine (HGD.out w7).mono ?_
      rintro e w8 ⟨rfl, hb⟩
      have HV8 := Lib.hid (HV7.out.below hb)
      have HX8 := Lib.hid (HX7.out.below hb)
      have HB8 := Lib.hid (HB7.out.trans (hb.mono HB7.out.size))
      clear hb HV7 HX7 HB7 HGD
      cases z with
      | false =>
        have HR := Shut.mk (HR0.out.trans (if_neg (fun h => of_decide_eq_false HZ.out h.1)))
        clear HV8
        go_upto_region 7 with (fail)
        refine wp_region_lit ?_
        refine wpList_build_val rfl 28 #[] rfl [] _ (by simp) built_draft0 ?_
        simp only [Act.put, List.setIfInBounds_toArray, List.set_cons_zero, List.set_cons_succ]
        refine wpList_store_cells rfl 28 _ _ rfl rfl w.heap.size (draftV zeroD) (draftV zeroD) 28 rfl rfl HX8.out HS.out rfl (draftV_all zeroD) ?_
        intro wf hc hb
        have HXF := Lib.hid hc.out
        have HBF := Lib.hid (show Below w.heap.size w wf from But.toBelow HB8.out hb.out (Nat.le_refl _) HB8.out.size)
        clear hc hb HX8 HB8
        go_wp2_with fail
        refine bodyPost_ret (results_cells_tmp rfl _ _ w.heap.size (draftV zeroD) 28 _ _ rfl rfl HXF.out Try.underlying28 rfl HS.out) rfl ?_
        exact ⟨by rw [HR.out]; rfl, HBF.out⟩
      | true =>
        have hgd := of_decide_eq_true HZ.out
        have HTX := Lib.hid (fun w' => dev_draftText d (hgd.fit HOK.out) w')
        obtain ⟨T, hT⟩ : ∃ T, draftB d = T := ⟨_, rfl⟩
        rw [hT] at HTX
        by_cases hts : T = s
        · have HR := Shut.mk (HR0.out.trans (if_pos ⟨hgd, hT.trans hts⟩))
          have heq : (T == s) = true := by simp [hts]
          clear hgd hT hts
          go_wp2_with (refine wpList_load_cells_want (by rfl) 28 _ rfl g12 (draftV d) 28 _ rfl HV8.out Try.underlying28 rfl HSE.out ?_)
          refine (HTX.out w8).mono ?_
          rintro e w9 ⟨rfl, hb⟩
          have HV9 := Lib.hid (HV8.out.below hb)
          have HX9 := Lib.hid (HX8.out.below hb)
          have HB9 := Lib.hid (HB8.out.trans (hb.mono HB8.out.size))
          clear hb HV8 HX8 HB8 HTX
          go_upto_region 8 with (fail)
          refine wp_region_lit ?_
          refine wpList_load_cells rfl 28 _ rfl g12 (draftV d) 28 _ rfl HV9.out Try.underlying28 rfl HSE.out ?_
          simp only [Act.put, List.setIfInBounds_toArray, List.set_cons_zero, List.set_cons_succ]
          refine wpList_store_cells rfl 28 _ _ rfl rfl w.heap.size (draftV zeroD) (draftV d) 28 rfl rfl HX9.out HSE.out HSY.out (draftV_all d) ?_
          intro w10 hc hb
          have HX10 := Lib.hid hc.out
          have HB10 := Lib.hid (show Below w.heap.size w w10 from But.toBelow HB9.out hb.out (Nat.le_refl _) HB9.out.size)
          clear hc hb HX9 HB9
          go_wp2_with fail
          refine bodyPost_ret (results_cells_tmp rfl _ _ w.heap.size (draftV d) 28 _ _ rfl rfl HX10.out Try.underlying28 rfl HSE.out) rfl ?_
          exact ⟨by rw [HR.out]; rfl, HB10.out⟩
        · have HR := Shut.mk (HR0.out.trans (if_neg (fun h => hts (hT.symm.trans h.2))))
          have heq : (T == s) = false := by simp [hts]
          clear hgd hT hts
          go_wp2_with (refine wpList_load_cells_want (by rfl) 28 _ rfl g12 (draftV d) 28 _ rfl HV8.out Try.underlying28 rfl HSE.out ?_)
          refine (HTX.out w8).mono ?_
          rintro e w9 ⟨rfl, hb⟩
          have HXA := Lib.hid (HX8.out.below hb)
          have HBA := Lib.hid (HB8.out.trans (hb.mono HB8.out.size))
          clear hb HV8 HX8 HB8 HTX
          go_upto_region 7 with (fail)
          refine wp_region_lit ?_
          refine wpList_build_val rfl 28 #[] rfl [] _ (by simp) built_draft0 ?_
          simp only [Act.put, List.setIfInBounds_toArray, List.set_cons_zero, List.set_cons_succ]
          refine wpList_store_cells rfl 28 _ _ rfl rfl w.heap.size (draftV zeroD) (draftV zeroD) 28 rfl rfl HXA.out HS.out rfl (draftV_all zeroD) ?_
          intro wf hc hb
          have HXF := Lib.hid hc.out
          have HBF := Lib.hid (show Below w.heap.size w wf from But.toBelow HBA.out hb.out (Nat.le_refl _) HBA.out.size)
          clear hc hb HXA HBA
          go_wp2_with fail
          refine bodyPost_ret (results_cells_tmp rfl _ _ w.heap.size (draftV zeroD) 28 _ _ rfl rfl HXF.out Try.underlying28 rfl HS.out) rfl ?_
          exact ⟨by rw [HR.out]; rfl, HBF.out⟩
    · have hn4 : ((n : Int) != 4) = true := by simp; omega
      have HR := Shut.mk (readD_parts4 (s := s) (by intro a b c d h; rw [HL.out] at h; simp only [Option.some.injEq] at h; subst h; exact h4 (by rw [← hn]; rfl)))
      rw [hn]
      clear HSA hn
      go_upto_region 3 with (fail)
      refine wp_region_lit ?_
      refine wpList_build_val rfl 28 #[] rfl [] _ (by simp) built_draft0 ?_
      simp only [Act.put, List.setIfInBounds_toArray, List.set_cons_zero, List.set_cons_succ]
      refine wpList_store_cells rfl 28 _ _ rfl rfl w.heap.size (draftV zeroD) (draftV zeroD) 28 rfl rfl HX2.out HS.out rfl (draftV_all zeroD) ?_
      intro wf hc hb
      have HXF := Lib.hid hc.out
      have HBF := Lib.hid (show Below w.heap.size w wf from But.toBelow HB2.out hb.out (Nat.le_refl _) HB2.out.size)
      clear hc hb HX2 HB2
      go_wp2_with fail
      refine bodyPost_ret (results_cells_tmp rfl _ _ w.heap.size (draftV zeroD) 28 _ _ rfl rfl HXF.out Try.underlying28 rfl HS.out) rfl ?_
      exact ⟨by rw [HR.out]; rfl, HBF.out⟩
end Go.Proofs.Ytenmkfjgjemiiaa
namespace Go.Proofs.Ytenmkfjgjemiiaa
open Go.RowKit Go.BigFrame
theorem strsP_uni (L : List (List UInt8)) : ∀ u ∈ strs L, u.oneCell' = true := fun u hu => by
  obtain ⟨s, _, rfl⟩ := List.mem_map.1 hu
  rfl
theorem Try.infoStrP : (Try.prog.info? 9).map (fun i => (i.zero, i.size, i.bytes)) = some (some (.string ⟨#[]⟩), 1, 16) := by kernel_rfl
theorem strsP_src {ad : Addr} {L : List (List UInt8)} {w : World} (h : StrsAt (some ad) L w) : ∀ j u, (strs L)[j]? = some u → w.cell? (ad.add j) = some u := by
  intro j u hj
  rcases h with rfl | ⟨b, o, h1, h2, h3⟩
  · cases hj
  · cases h1
    have hlt := (List.getElem?_eq_some_iff.1 hj).1
    rw [strs_length] at hlt
    rw [Addr.add_lit, h3 j hlt, ← hj, strs, List.getElem?_map, List.getElem?_eq_getElem hlt]
    rfl
section
variable {w : World} {ops : Array Oper} {rest : List Oper} {o : Oper} {a : Act} {Q : Exit → Act → World → Prop}
theorem wpList_push_strs (hgd : o.guard = none) (s x : Operand) (ho : o.op = .call { callee := .builtin .append, args := #[s, x], argTypes := #[61, 61] })
    (B : Nat) (v : Value) (L M : List (List UInt8)) (ao : Option Addr) (n c : Nat) (hn : n = M.length) (hs : a.eval s = v) (hown : OwnS B v L w) (hx : a.eval x = .slice ao n c) (hsrc : StrsAt ao M w) (hnil : ao = none → c = 0)
    (h63 : L.length + M.length ≤ 1000000) (hB : B ≤ w.heap.size)
    (h : ∀ v' w', Hid (OwnS B v' (L ++ M) w') → Hid (Below B w w') → Hid (w.grownBy w' v.ownBlock) → wpList Try.prog ops Q rest (a.put o.dst v') w') : wpList Try.prog ops Q (o :: rest) a w := by
  obtain ⟨i, hi, hz0, hz1, hz2⟩ := info_parts Try.infoStrP
  have hap : strs (L ++ M) = strs L ++ strs M := by simp [strs]
  cases ao with
  | none =>
    obtain rfl := hnil rfl
    have hm : M = [] := by
      rcases hsrc with h | ⟨b, o', h, _⟩
      · exact h
      · cases h
    subst hm
    subst hn
    refine wpList_append_own_none hgd s x _ ho B 9 i 1 Try.underlying61 hi v L.length (strs L) hs hown hx (h _ _ (Lib.hid ?_) (Lib.hid (Below.refl _ _)) (Lib.hid ⟨rfl, rfl, rfl, Nat.le_refl _, fun _ _ _ => rfl⟩))
    rw [List.append_nil]
    exact hown
  | some ad =>
    subst hn
    refine wpList_append_own_at w hgd s x _ ho B 9 i _ 1 16 Try.underlying61 hi hz0 hz1 hz2 rfl (by decide) v L.length (strs L) hs hown ad M.length c (strs M) hx (by rw [strs_length, Nat.mul_one]) (strsP_src hsrc) (strsP_uni M) (by unfold maxLen; omega) (by omega) hB ?_
    intro v' w' h2 hg _ h3
    refine h v' w' (Lib.hid ?_) (Lib.hid ((Below.refl B w).grown hg hB (fun k hk => (World.ownsRow.lt hown k hk).1))) (Lib.hid hg)
    show w'.ownsRow B _ 1 v' (L ++ M).length (strs (L ++ M))
    rw [List.length_append, hap]
    exact h2
end
theorem strs_lit (w : World) (L : List (List UInt8)) (t : TypeId) : StrsAt (some ⟨w.heap.size, 0, none⟩) L (w.alloc (.cells (strs L).toArray t)) := by
  refine .inr ⟨w.heap.size, 0, rfl, by rw [World.size_alloc]; exact Nat.lt_succ_self _, fun i hi => ?_⟩
  rw [Lib.cell_of_heap (heap_alloc_new w _), List.getElem?_toArray, Nat.zero_add, strs, List.getElem?_map, List.getElem?_eq_getElem hi]
  rfl
def NewS (s : Nat → Bool) (V : Nat → Value) (i n : Nat) (L : List (List UInt8)) (w : World) : Prop := s i = true → ∃ g, V i = .slice (some ⟨g, 0, none⟩) n n ∧ StrsAt (some ⟨g, 0, none⟩) L w
theorem NewS.none {V : Nat → Value} {i n : Nat} {L : List (List UInt8)} {w : World} : NewS (fun _ => false) V i n L w := fun h => by cases h
theorem NewS.ne {s : Nat → Bool} {V : Nat → Value} {i j n : Nat} {L : List (List UInt8)} {w w' : World} {u : Value} (h : NewS s V j n L w) (hne : j ≠ i) (hb : Below w.heap.size w w') : NewS (fun j => s j || j == i) (upd V i u) j n L w' := fun hs => by
  obtain ⟨g, e, hk⟩ := h (seen_ne hne hs)
  exact ⟨g, by rw [upd_ne V u hne]; exact e, hk.below hb⟩
theorem NewS.same {s : Nat → Bool} {V : Nat → Value} {i n : Nat} {L : List (List UInt8)} {w : World} {t : TypeId} : NewS (fun j => s j || j == i) (upd V i (.slice (some ⟨w.heap.size, 0, Option.none⟩) n n)) i n L (w.alloc (.cells (strs L).toArray t)) :=
  fun _ => ⟨w.heap.size, upd_same _ _ _, strs_lit w L t⟩
theorem op_build_strs {P : Program} {o : Oper} {a : Act} {w : World} {K : Act → World → Prop} {Q : Exit → Act → World → Prop} (t e : TypeId) (n : Nat) (xs : Array (Nat × Operand)) (ho : o.op = .buildSlice t n xs) (vs : List (Nat × Value)) (L : List (List UInt8)) (hv : (xs.map fun (i, x) => (i, a.eval x)) = vs.toArray)
    (hr : ∀ w, (Instr.buildSlice t n vs.toArray).run P w = .ok (.slice (some ⟨w.heap.size, 0, none⟩) n n) (w.alloc (.cells (strs L).toArray e)))
    (h : K (a.put o.dst (.slice (some ⟨w.heap.size, 0, none⟩) n n)) (w.alloc (.cells (strs L).toArray e))) : OpWp P o a w K Q := by
  refine ⟨?_⟩
  unfold Oper.wp execOp
  simp only [ho, hv, Sem.run_bind, Sem.run_pure, hr, Result.andThen_ok]
  exact h
theorem built_strs2 (a b : List UInt8) (w : World) : (Instr.buildSlice 61 2 [(0, Value.string ⟨a.toArray⟩), (1, .string ⟨b.toArray⟩)].toArray).run Try.prog w = .ok (.slice (some ⟨w.heap.size, 0, none⟩) 2 2) (w.alloc (.cells (strs [a, b]).toArray 9)) := by kernel_rfl
theorem built_strs3 (a b c : List UInt8) (w : World) : (Instr.buildSlice 61 3 [(0, Value.string ⟨a.toArray⟩), (1, .string ⟨b.toArray⟩), (2, .string ⟨c.toArray⟩)].toArray).run Try.prog w = .ok (.slice (some ⟨w.heap.size, 0, none⟩) 3 3) (w.alloc (.cells (strs [a, b, c]).toArray 9)) := by kernel_rfl
end Go.Proofs.Ytenmkfjgjemiiaa
