/-
  The developers' Read. Written by op/gen/gen_dro.py.
-/
import Derived.Test.YthgfpojfnhkckaaOpDrd
import Derived.Test.YthgfpojfnhkckaaOpPart
import Derived.Test.YthgfpojfnhkckaaOpTxtO
import Derived.Test.YthgfpojfnhkckaaOpGoodO
namespace Go.Proofs.Ythgfpojfnhkckaa
open Go.RowKit Go.BigFrame

def DrO (o : Option OpN) (pa : Option Addr) (pc : Nat) : Value := .tuple #[.agg (opV (o.getD zeroO) pa pc), .int .i64 (if o.isSome then 0 else 4)]
def DrOPost (B : Nat) (o : Option OpN) (e : Ending) (w' : World) : Prop :=
  ∃ pa pc, e = .returned (DrO o pa pc) ∧ IAt pa (o.getD zeroO).preds w' ∧ ∀ a, pa = some a → B ≤ a.block
theorem DrOPost.none {B : Nat} {w' : World} : DrOPost B Option.none (.returned (.tuple #[.agg (opV zeroO Option.none 0), .int .i64 4])) w' := ⟨Option.none, 0, rfl, .inl rfl, fun a h => by cases h⟩
theorem readO_parts4 {s : List UInt8} (h : ∀ k key val r, splitB s = some [k, key, val, r] → False) : readO s = none := by
  unfold readO
  split
  · rename_i k key val r hs
    exact (h k key val r hs).elim
  · rfl
theorem built_op4 (o : OpN) (hr : o.d.ref.length = 32) (pa : Option Addr) (pc : Nat) : Try.prog.built 28 [(0, .agg (draftV o.d)), (1, .int .i64 o.author), (2, .int .i64 o.depth), (3, .slice pa o.preds.length pc)] = some (opV o pa pc) := by
  rw [op_fill]
  refine (fill_lay placeO 0 0 35 _ _ [] (draftL zeroD) [.int .i64 0, .int .i64 0, .slice none 0 0] (draftL o.d) rfl rfl (draftL_len hr) rfl rfl).trans ?_
  refine (fill_lay placeO 1 35 1 _ _ (draftL o.d) [.int .i64 0] [.int .i64 0, .slice none 0 0] [.int .i64 o.author] rfl rfl rfl rfl (draftL_len hr)).trans ?_
  show Instr.fill _ (draftL o.d ++ ([Value.int .i64 o.author] ++ ([Value.int .i64 0] ++ [Value.slice none 0 0]))).toArray _ = _
  rw [← List.append_assoc]
  refine ((fill_lay placeO 2 36 1 (.int .i64 o.depth) _ (draftL o.d ++ [.int .i64 o.author]) [.int .i64 0] [.slice none 0 0] [.int .i64 o.depth] rfl rfl rfl rfl (by rw [List.length_append, draftL_len hr]; rfl)).trans ?_)
  show Instr.fill _ (draftL o.d ++ [Value.int .i64 o.author] ++ ([Value.int .i64 o.depth] ++ ([Value.slice none 0 0] ++ []))).toArray _ = _
  rw [← List.append_assoc]
  refine ((fill_lay placeO 3 37 1 (.slice pa o.preds.length pc) [] (draftL o.d ++ [.int .i64 o.author] ++ [.int .i64 o.depth]) [.slice none 0 0] [] [.slice pa o.preds.length pc] rfl rfl rfl rfl (by rw [List.length_append, List.length_append, draftL_len hr]; rfl)).trans ?_)
  rw [fill_end, opV, opL]
  simp
theorem OwnI.notCells {B g : Nat} {e t : TypeId} {v : Value} {L : List (List Nat)} {cs : Array Value} {w : World} (h : OwnI B e v L w) (hc : Cells g t cs w) (hne : t ≠ e) : ∀ g', v.ownBlock = some g' → g ≠ g' := by
  rintro g' hg rfl
  rcases h.2 with ⟨hv, _⟩ | ⟨g2, cap, cur, hv, _, h2, _⟩
  · rw [hv] at hg; cases hg
  · rw [hv] at hg
    simp only [Value.ownBlock, Option.some.injEq] at hg
    subst hg
    have h1 : w.heap[g2]? = _ := hc
    rw [h1] at h2
    simp only [Option.some.injEq, Obj.cells.injEq] at h2
    exact hne h2.2.1
set_option maxHeartbeats 8000000 in
set_option maxRecDepth 100000 in
theorem dev_readOp (s : List UInt8) (w : World) (hm : s.length ≤ 1000000) :
    Calls Try.prog 17 #[.string ⟨s.toArray⟩] w fun e w' => DrOPost w.heap.size (readO s) e w' ∧ Below w.heap.size w w' := by
  have hsz : (Try.prog.info? 28).map (·.size) = some (opV zeroO none 0).size := Try.sizeO
  have HS := Lib.hid hsz
  have HM := Lib.hid hm
  clear hsz hm
  go_enter Try.func17, Try.ntmps17
  go_upto_region 1 with (fail)
  have hx : Cells w.heap.size 28 (opV zeroO none 0) (w.alloc (.cells (opV zeroO none 0) 28)) := heap_alloc_new w _
  have hb : Below w.heap.size w (w.alloc (.cells (opV zeroO none 0) 28)) := (Below.refl _ _).alloc (Nat.le_refl _) _
  rw [zeroO_lit] at hx hb
  obtain ⟨w1, hw1⟩ : ∃ x, x = w.alloc (.cells (opV zeroO none 0) 28) := ⟨_, rfl⟩
  rw [zeroO_lit] at hw1
  rw [← hw1] at hx hb ⊢
  rw [← zeroO_lit] at hx
  have HX := Lib.hid hx
  have HB := Lib.hid hb
  clear hw1 hx hb
  go_wp2_with fail
  obtain ⟨q, hq⟩ : ∃ q, splitB s = q := ⟨_, rfl⟩
  have HL := Shut.mk hq
  have hcc := split_any s w1 (by have := HM.out; omega)
  rw [hq] at hcc
  clear hq
  refine hcc.mono ?_
  rintro e w2 ⟨⟨v, rfl, ho⟩, hb⟩
  obtain ⟨ao, cq, rfl⟩ := ho.form
  have HX2 := Lib.hid (HX.out.below hb)
  have HB2 := Lib.hid (HB.out.trans (hb.mono HB.out.size))
  have HSA := Lib.hid (strsAt_own ho)
  clear hcc ho hb HX HB
  cases q with
  | none =>
    simp only [Option.getD_none, List.length_nil, Option.isSome_none]
    have HR := Shut.mk (readO_parts4 (s := s) (by intro k key val r h; rw [HL.out] at h; cases h))
    clear HSA
    go_upto_region 3 with (fail)
    refine wp_region_lit ?_
    refine wpList_build_val rfl 28 #[] rfl [] _ (by simp) built_op0 ?_
    simp only [Act.put, List.setIfInBounds_toArray, List.set_cons_zero, List.set_cons_succ]
    refine wpList_store_cells rfl 28 _ _ rfl rfl w.heap.size (opV zeroO none 0) (opV zeroO none 0) 28 rfl rfl HX2.out HS.out rfl (opV_all zeroO none 0) ?_
    intro wf hc hb
    have HXF := Lib.hid hc.out
    have HBF := Lib.hid (show Below w.heap.size w wf from But.toBelow HB2.out hb.out (Nat.le_refl _) HB2.out.size)
    clear hc hb HX2 HB2
    go_wp2_with fail
    refine bodyPost_ret (results_cells_tmp rfl _ _ w.heap.size (opV zeroO none 0) 28 _ _ rfl rfl HXF.out Try.underlying28 rfl HS.out) rfl ?_
    exact ⟨by rw [HR.out]; exact DrOPost.none, HBF.out⟩
  | some l =>
    simp only [Option.getD_some, Option.isSome_some] at HSA ⊢
    obtain ⟨n, hn⟩ : ∃ n, l.length = n := ⟨_, rfl⟩
    by_cases h4 : n = 4
    · rw [hn]
      subst h4
      obtain ⟨ta, tb, p, tt, rfl⟩ : ∃ a b c d, l = [a, b, c, d] := by
        match l, hn with
        | [a, b, c, d], _ => exact ⟨a, b, c, d, rfl⟩
      have HLR := Lib.hid (split_parts HL.out)
      obtain ⟨g, og, rfl, hg, c0, c1, c2, c3⟩ := strs4 HSA.out
      have HG2 := Lib.hid hg
      have HC0 := Lib.hid c0
      have HC1 := Lib.hid c1
      have HC2 := Lib.hid c2
      clear hn HSA hg c0 c1 c2
      obtain ⟨od, hod⟩ : ∃ od, readD tt = od := ⟨_, rfl⟩
      have HOD := Shut.mk hod
      have HRD := Lib.hid (dev_readDraft tt w2 (by have := HLR.out tt (by simp); omega))
      rw [hod] at HRD
      have hdf := getD_draft tt
      rw [hod] at hdf
      unfold DrD at HRD
      obtain ⟨d, hd⟩ : ∃ d, od.getD zeroD = d := ⟨_, rfl⟩
      rw [hd] at HRD hdf
      have HDE := Shut.mk hd
      have HDF := Lib.hid hdf
      have HSD := Lib.hid (show (Try.prog.info? 25).map (·.size) = some (draftV d).size by rw [draftV_size HDF.out.1.1]; exact Try.sizeD)
      have HSZ := Lib.hid (show (draftV zeroD).size = (draftV d).size by rw [draftV_size HDF.out.1.1]; rfl)
      have HZD := Lib.hid (show (Try.prog.info? 25).bind (·.zero) = some (.agg (draftL zeroD).toArray) by kernel_rfl)
      clear hod hd hdf
      go_wp2_with fail
      refine HRD.out.mono ?_
      rintro e w3 ⟨rfl, hb⟩
      have HX3 := Lib.hid (HX2.out.below hb)
      have HB3 := Lib.hid (HB2.out.trans (hb.mono HB2.out.size))
      have HD0 := Lib.hid ((hb.cell (p := ⟨g, og, none⟩) HG2.out).trans HC0.out)
      have HD1 := Lib.hid ((hb.cell (p := ⟨g, og + 1, none⟩) HG2.out).trans HC1.out)
      have HD2 := Lib.hid ((hb.cell (p := ⟨g, og + 2, none⟩) HG2.out).trans HC2.out)
      have HG3 := Lib.hid (Nat.lt_of_lt_of_le HG2.out hb.size)
      clear c3 hb HX2 HB2 HC0 HC1 HC2 HG2 HRD
      cases od with
      | none =>
        have HR := Shut.mk (readO_none HL.out HOD.out)
        simp only [Option.isSome_none]
        go_wp2_with (first
          | (refine wpList_alloc_of rfl 25 rfl (draftL zeroD) HZD.out ?_)
          | (refine wpList_store_cells rfl 25 _ _ rfl rfl w3.heap.size (draftV zeroD) (draftV d) 25 rfl rfl (heap_alloc_new w3 _) HSD.out HSZ.out (draftV_all d) ?_))
        intro w4 hc hb
        have hb4 : Below w3.heap.size w3 w4 := But.toBelow ((Below.refl _ w3).alloc (Nat.le_refl _) _) hb.out (Nat.le_refl _) (by rw [World.size_alloc]; exact Nat.le_succ _)
        have HX4 := Lib.hid (HX3.out.below hb4)
        have HB4 := Lib.hid (HB3.out.trans (hb4.mono HB3.out.size))
        clear hc hb hb4 HX3 HB3
        go_upto_region 6 with (fail)
        refine wp_region_lit ?_
        refine wpList_build_val rfl 28 #[] rfl [] _ (by simp) built_op0 ?_
        simp only [Act.put, List.setIfInBounds_toArray, List.set_cons_zero, List.set_cons_succ]
        iterate 3 (first | go_skip | go_guarded | go_step)
        refine wpList_store_cells rfl 28 _ _ rfl rfl w.heap.size (opV zeroO none 0) (opV zeroO none 0) 28 rfl rfl HX4.out HS.out rfl (opV_all zeroO none 0) ?_
        intro wf hc hb
        have HXF := Lib.hid hc.out
        have HBF := Lib.hid (show Below w.heap.size w wf from But.toBelow HB4.out hb.out (Nat.le_refl _) HB4.out.size)
        clear hc hb HX4 HB4
        go_wp2_with fail
        refine bodyPost_ret (results_cells_tmp rfl _ _ w.heap.size (opV zeroO none 0) 28 _ _ rfl rfl HXF.out Try.underlying28 rfl HS.out) rfl ?_
        exact ⟨by rw [HR.out]; exact DrOPost.none, HBF.out⟩
      | some dd =>
        simp only [Option.isSome_some]
        obtain rfl : dd = d := HDE.out
        go_wp2_with (first
          | (refine wpList_alloc_of rfl 25 rfl (draftL zeroD) HZD.out ?_)
          | (refine wpList_store_cells rfl 25 _ _ rfl rfl w3.heap.size (draftV zeroD) (draftV dd) 25 rfl rfl (heap_alloc_new w3 _) HSD.out HSZ.out (draftV_all dd) ?_))
        intro w4 hc hb
        have hb4 : Below w3.heap.size w3 w4 := But.toBelow ((Below.refl _ w3).alloc (Nat.le_refl _) _) hb.out (Nat.le_refl _) (by rw [World.size_alloc]; exact Nat.le_succ _)
        have HV4 := Lib.hid hc.out
        have HX4 := Lib.hid (HX3.out.below hb4)
        have HB4 := Lib.hid (HB3.out.trans (hb4.mono HB3.out.size))
        have HE0 := Lib.hid ((hb4.cell (p := ⟨g, og, none⟩) HG3.out).trans HD0.out)
        have HE1 := Lib.hid ((hb4.cell (p := ⟨g, og + 1, none⟩) HG3.out).trans HD1.out)
        have HE2 := Lib.hid ((hb4.cell (p := ⟨g, og + 2, none⟩) HG3.out).trans HD2.out)
        have HG4 := Lib.hid (Nat.lt_of_lt_of_le HG3.out hb4.size)
        have HVL := Lib.hid hc.out.lt
        obtain ⟨gd, hgd⟩ : ∃ gd, w3.heap.size = gd := ⟨_, rfl⟩
        rw [hgd] at HV4 HVL ⊢
        clear hc hb hb4 hgd HX3 HB3 HD0 HD1 HD2 HG3 HZD HSZ
        go_upto_region 7 with (fail)
        obtain ⟨x, hxn⟩ : ∃ x, openN ta = x := ⟨_, rfl⟩
        obtain ⟨y, hyn⟩ : ∃ y, openN tb = y := ⟨_, rfl⟩
        obtain ⟨L, hL⟩ : ∃ L, idsOf (p.length / 32) p = L := ⟨_, rfl⟩
        obtain ⟨k, hk⟩ : ∃ k, p.length / 32 = k := ⟨_, rfl⟩
        have hLk : L.length = k := by rw [← hL, idsOf_len, hk]
        have hpl := HLR.out p (by simp)
        have HPT := Lib.hid (fun w' => dev_parted p w' (by omega))
        rw [hL] at HPT
        have HXN := Shut.mk hxn
        have HYN := Shut.mk hyn
        have HKL := Lib.hid (show k ≤ 10000 by omega)
        have HLK := Shut.mk hLk
        have HLI := Lib.hid (show ∀ q ∈ L, IdOk q by rw [← hL]; exact idsOf_ok' _ _ (by omega))
        obtain ⟨o, ho⟩ : ∃ o : OpN, o = ⟨dd, x, y, L⟩ := ⟨_, rfl⟩
        have HO := Shut.mk ho
        have HOE := Shut.mk (show devO dd ta tb p = o by rw [ho, devO, hxn, hyn, hL])
        have HOR := Lib.hid (show o.d.ref.length = 32 by rw [ho]; exact HDF.out.1.1)
        have HTA := Lib.hid (show ta.length ≤ 262144 from HLR.out ta (by simp))
        have HTB := Lib.hid (show tb.length ≤ 262144 from HLR.out tb (by simp))
        have HI0 := Lib.hid (show ∀ w, (Instr.indexAt 59 (.slice (some ⟨g, og, none⟩) 4 cq) (.int .i64 0)).run Try.prog w = .ok (.pointer (some ⟨g, og, none⟩)) w from fun w => by go_simp)
        have HI1 := Lib.hid (show ∀ w, (Instr.indexAt 59 (.slice (some ⟨g, og, none⟩) 4 cq) (.int .i64 1)).run Try.prog w = .ok (.pointer (some ⟨g, og + 1, none⟩)) w from fun w => by go_simp)
        have HI2 := Lib.hid (show ∀ w, (Instr.indexAt 59 (.slice (some ⟨g, og, none⟩) 4 cq) (.int .i64 2)).run Try.prog w = .ok (.pointer (some ⟨g, og + 2, none⟩)) w from fun w => by go_simp)
        have HAL := Lib.hid (show ∀ w : World, (Instr.alloc 28 true (.tuple #[])).run Try.prog w = .ok (.pointer (some ⟨w.heap.size, 0, none⟩)) (w.alloc (.cells (opV zeroO none 0) 28)) from fun w => by kernel_rfl)
        have HBD := Lib.hid (show ∀ (pa : Option Addr) (pc : Nat) w, (Instr.build 28 ([(0, .agg (draftV dd)), (1, .int .i64 (x : Int)), (2, .int .i64 (y : Int)), (3, .slice pa k pc)] : List (Nat × Value)).toArray).run Try.prog w = .ok (.agg (opV o pa pc)) w from fun pa pc w => by
          have hb := built_op4 o HOR.out pa pc
          rw [HO.out] at hb ⊢
          simp only [HLK.out] at hb
          exact run_build w 28 _ _ hb)
        have HDZ := Lib.hid (show Below w4.heap.size w4 w4.drew from (Below.refl _ _).drew)
        clear hxn hyn hL hk hLk ho hpl
        refine wp_region_free 17 (fun q V w' => Val q V 0 (.agg (draftV dd)) ∧ Val q V 1 (.slice (some ⟨g, og, none⟩) 4 cq) ∧ Val q V 2 (.pointer (some ⟨g, og, none⟩)) ∧ Val q V 3 (.string ⟨ta.toArray⟩) ∧ Val q V 5 (.int .i64 (x : Int)) ∧ Val q V 6 (.slice (some ⟨g, og, none⟩) 4 cq) ∧ Val q V 7 (.pointer (some ⟨g, og + 1, none⟩)) ∧ Val q V 8 (.string ⟨tb.toArray⟩) ∧ Val q V 10 (.int .i64 (y : Int)) ∧ Val q V 11 (.slice (some ⟨g, og, none⟩) 4 cq) ∧ Val q V 12 (.pointer (some ⟨g, og + 2, none⟩)) ∧ Val q V 13 (.string ⟨p.toArray⟩) ∧ NewC q V w4.heap.size 16 28 (opV zeroO none 0) w' ∧ Below w4.heap.size w4 w' ∧ NewR q V w4.heap.size 4 5 ta w' ∧ NewR q V w4.heap.size 9 10 tb w' ∧ Ord q 9 5 ∧ Ord q 10 9 ∧ Ord q 14 10 ∧ NewI q V w4.heap.size 14 k 23 L w' ∧ BuiltI q V 14 15 k (fun pa pc => .agg (opV o pa pc))) (fun _ => undef) (by kernel_rfl) (by kernel_rfl) (by kernel_rfl) (by simp only [List.take_succ_cons, List.take_zero, putAll, Act.put, List.setIfInBounds_toArray, List.set_cons_zero, List.set_cons_succ]) ⟨Val.none, Val.none, Val.none, Val.none, Val.none, Val.none, Val.none, Val.none, Val.none, Val.none, Val.none, Val.none, NewC.none, HDZ.out, NewR.none, NewR.none, Ord.none, Ord.none, Ord.none, NewI.none, BuiltI.none⟩ ?_ ?_
        · simp only [List.take_succ_cons, List.take_zero, putAll, Nat.zero_add, Nat.reduceAdd, Act.put, List.setIfInBounds_toArray, List.set_cons_zero, List.set_cons_succ]
          refine FreeSteps.cons ?_ (FreeSteps.cons ?_ (FreeSteps.cons ?_ (FreeSteps.cons ?_ (FreeSteps.cons ?_ (FreeSteps.cons ?_ (FreeSteps.cons ?_ (FreeSteps.cons ?_ (FreeSteps.cons ?_ (FreeSteps.cons ?_ (FreeSteps.cons ?_ (FreeSteps.cons ?_ (FreeSteps.cons ?_ (FreeSteps.cons ?_ (FreeSteps.cons ?_ (FreeSteps.cons ?_ (FreeSteps.cons ?_ (FreeSteps.nil)))))))))))))))))
          all_goals (refine FreeStep.fresh rfl ?_; rintro q V wq hr hu ⟨h0, h1, h2, h3, h5, h6, h7, h8, h10, h11, h12, h13, h16, hb, hA, hB, o1, o2, o3, hI, hO⟩ K hK)
          · exact op_load_cells 25 (.tmp 6) rfl gd (draftV dd) 25 _ rfl (HV4.out.below (hb.mono (Nat.le_refl _))) Try.underlying25 rfl HSD.out (hK _ _ ⟨.same, h1.ne (by decide), h2.ne (by decide), h3.ne (by decide), h5.ne (by decide), h6.ne (by decide), h7.ne (by decide), h8.ne (by decide), h10.ne (by decide), h11.ne (by decide), h12.ne (by decide), h13.ne (by decide), h16.ne (by decide) (Below.refl _ _), hb, hA.ne (by decide) (Below.refl _ _), hB.ne (by decide) (Below.refl _ _), o1.ne (by decide), o2.ne (by decide), o3.ne (by decide), hI.ne (by decide) (Below.refl _ _), hO.ne (by decide) (by decide)⟩)
          · exact op_move (.tmp 4) rfl _ rfl (hK _ _ ⟨h0.ne (by decide), .same, h2.ne (by decide), h3.ne (by decide), h5.ne (by decide), h6.ne (by decide), h7.ne (by decide), h8.ne (by decide), h10.ne (by decide), h11.ne (by decide), h12.ne (by decide), h13.ne (by decide), h16.ne (by decide) (Below.refl _ _), hb, hA.ne (by decide) (Below.refl _ _), hB.ne (by decide) (Below.refl _ _), o1.ne (by decide), o2.ne (by decide), o3.ne (by decide), hI.ne (by decide) (Below.refl _ _), hO.ne (by decide) (by decide)⟩)
          · exact op_indexAt 59 (.tmp 33) (.const (.int .i64 0)) rfl _ _ _ (h1 (hr { on := 1, ground := .data } (by simp) rfl)) rfl HI0.out (hK _ _ ⟨h0.ne (by decide), h1.ne (by decide), .same, h3.ne (by decide), h5.ne (by decide), h6.ne (by decide), h7.ne (by decide), h8.ne (by decide), h10.ne (by decide), h11.ne (by decide), h12.ne (by decide), h13.ne (by decide), h16.ne (by decide) (Below.refl _ _), hb, hA.ne (by decide) (Below.refl _ _), hB.ne (by decide) (Below.refl _ _), o1.ne (by decide), o2.ne (by decide), o3.ne (by decide), hI.ne (by decide) (Below.refl _ _), hO.ne (by decide) (by decide)⟩)
          · exact op_load_cell 9 (.tmp 34) rfl _ _ (h2 (hr { on := 2, ground := .data } (by simp) rfl)) ((hb.cell (p := ⟨g, og, none⟩) HG4.out).trans HE0.out) Try.isAgg9 (hK _ _ ⟨h0.ne (by decide), h1.ne (by decide), h2.ne (by decide), .same, h5.ne (by decide), h6.ne (by decide), h7.ne (by decide), h8.ne (by decide), h10.ne (by decide), h11.ne (by decide), h12.ne (by decide), h13.ne (by decide), h16.ne (by decide) (Below.refl _ _), hb, hA.ne (by decide) (Below.refl _ _), hB.ne (by decide) (Below.refl _ _), o1.ne (by decide), o2.ne (by decide), o3.ne (by decide), hI.ne (by decide) (Below.refl _ _), hO.ne (by decide) (by decide)⟩)
          · refine op_call Try.func31 rfl rfl rfl [.string ⟨ta.toArray⟩] (congrArg (fun x => [x]) (h3 (hr { on := 3, ground := .data } (by simp) rfl))) (open_ok ta wq HTA.out) ?_
            rintro e w' ⟨rfl, hrd, hb'⟩
            exact ⟨_, rfl, (hK _ _ ⟨h0.ne (by decide), h1.ne (by decide), h2.ne (by decide), h3.ne (by decide), h5.ne (by decide), h6.ne (by decide), h7.ne (by decide), h8.ne (by decide), h10.ne (by decide), h11.ne (by decide), h12.ne (by decide), h13.ne (by decide), h16.ne (by decide) hb', hb.trans (hb'.mono hb.size), .same hb.size hrd, hB.ne (by decide) hb', o1.ne (by decide), o2.ne (by decide), o3.ne (by decide), hI.ne (by decide) hb', hO.ne (by decide) (by decide)⟩)⟩
          · have n9 : q 9 = false := o1.not hu
            have n14 : q 14 = false := o3.not (o2.not n9)
            obtain ⟨gr, hgr, hbg, hrd⟩ := hA (hr { on := 4, ground := .data } (by simp) rfl) hu
            refine op_call Try.func32 rfl rfl rfl [.pointer (some ⟨gr, 0, none⟩)] (congrArg (fun x => [x]) hgr) (rnum_any gr ta false wq hrd (fun h => by cases h)) ?_
            rintro e w' ⟨rfl, hrd', hbt⟩
            have hBT : Below w4.heap.size w4 w' := But.toBelow hb hbt hbg hb.size
            have hT : ∀ g t cs, t ≠ 77 → Cells g t cs wq → Cells g t cs w' := fun g t cs ht hc => hc.but hbt (hrd.notCells hc ht)
            refine ⟨_, rfl, ?_⟩
            rw [show (rdNum ta).1 = x from HXN.out]
            exact (hK _ _ ⟨h0.ne (by decide), h1.ne (by decide), h2.ne (by decide), h3.ne (by decide), .same, h6.ne (by decide), h7.ne (by decide), h8.ne (by decide), h10.ne (by decide), h11.ne (by decide), h12.ne (by decide), h13.ne (by decide), h16.turn (by decide) (fun g => hT g _ _ (by decide)), hBT, .used, hB.turn (by decide) (fun hi _ => by rw [n9] at hi; cases hi), o1.ne (by decide), o2.ne (by decide), o3.ne (by decide), hI.turn (by decide) (fun hi => by rw [n14] at hi; cases hi), hO.ne (by decide) (by decide)⟩)
          · exact op_move (.tmp 4) rfl _ rfl (hK _ _ ⟨h0.ne (by decide), h1.ne (by decide), h2.ne (by decide), h3.ne (by decide), h5.ne (by decide), .same, h7.ne (by decide), h8.ne (by decide), h10.ne (by decide), h11.ne (by decide), h12.ne (by decide), h13.ne (by decide), h16.ne (by decide) (Below.refl _ _), hb, hA.ne (by decide) (Below.refl _ _), hB.ne (by decide) (Below.refl _ _), o1.ne (by decide), o2.ne (by decide), o3.ne (by decide), hI.ne (by decide) (Below.refl _ _), hO.ne (by decide) (by decide)⟩)
          · exact op_indexAt 59 (.tmp 38) (.const (.int .i64 1)) rfl _ _ _ (h6 (hr { on := 6, ground := .data } (by simp) rfl)) rfl HI1.out (hK _ _ ⟨h0.ne (by decide), h1.ne (by decide), h2.ne (by decide), h3.ne (by decide), h5.ne (by decide), h6.ne (by decide), .same, h8.ne (by decide), h10.ne (by decide), h11.ne (by decide), h12.ne (by decide), h13.ne (by decide), h16.ne (by decide) (Below.refl _ _), hb, hA.ne (by decide) (Below.refl _ _), hB.ne (by decide) (Below.refl _ _), o1.ne (by decide), o2.ne (by decide), o3.ne (by decide), hI.ne (by decide) (Below.refl _ _), hO.ne (by decide) (by decide)⟩)
          · exact op_load_cell 9 (.tmp 39) rfl _ _ (h7 (hr { on := 7, ground := .data } (by simp) rfl)) ((hb.cell (p := ⟨g, og + 1, none⟩) HG4.out).trans HE1.out) Try.isAgg9 (hK _ _ ⟨h0.ne (by decide), h1.ne (by decide), h2.ne (by decide), h3.ne (by decide), h5.ne (by decide), h6.ne (by decide), h7.ne (by decide), .same, h10.ne (by decide), h11.ne (by decide), h12.ne (by decide), h13.ne (by decide), h16.ne (by decide) (Below.refl _ _), hb, hA.ne (by decide) (Below.refl _ _), hB.ne (by decide) (Below.refl _ _), o1.ne (by decide), o2.ne (by decide), o3.ne (by decide), hI.ne (by decide) (Below.refl _ _), hO.ne (by decide) (by decide)⟩)
          · have hch := hr { on := 5, ground := .chain } (by simp) rfl
            refine op_call Try.func31 rfl rfl rfl [.string ⟨tb.toArray⟩] (congrArg (fun x => [x]) (h8 (hr { on := 8, ground := .data } (by simp) rfl))) (open_ok tb wq HTB.out) ?_
            rintro e w' ⟨rfl, hrd, hb'⟩
            exact ⟨_, rfl, (hK _ _ ⟨h0.ne (by decide), h1.ne (by decide), h2.ne (by decide), h3.ne (by decide), h5.ne (by decide), h6.ne (by decide), h7.ne (by decide), h8.ne (by decide), h10.ne (by decide), h11.ne (by decide), h12.ne (by decide), h13.ne (by decide), h16.ne (by decide) hb', hb.trans (hb'.mono hb.size), hA.ne (by decide) hb', .same hb.size hrd, .same hch, o2.ne (by decide), o3.ne (by decide), hI.ne (by decide) hb', hO.ne (by decide) (by decide)⟩)⟩
          · have n14 : q 14 = false := o3.not hu
            have h5d : q 5 = true := o1 (hr { on := 9, ground := .data } (by simp) rfl)
            obtain ⟨gr, hgr, hbg, hrd⟩ := hB (hr { on := 9, ground := .data } (by simp) rfl) hu
            refine op_call Try.func32 rfl rfl rfl [.pointer (some ⟨gr, 0, none⟩)] (congrArg (fun x => [x]) hgr) (rnum_any gr tb false wq hrd (fun h => by cases h)) ?_
            rintro e w' ⟨rfl, hrd', hbt⟩
            have hBT : Below w4.heap.size w4 w' := But.toBelow hb hbt hbg hb.size
            have hT : ∀ g t cs, t ≠ 77 → Cells g t cs wq → Cells g t cs w' := fun g t cs ht hc => hc.but hbt (hrd.notCells hc ht)
            refine ⟨_, rfl, ?_⟩
            rw [show (rdNum tb).1 = y from HYN.out]
            exact (hK _ _ ⟨h0.ne (by decide), h1.ne (by decide), h2.ne (by decide), h3.ne (by decide), h5.ne (by decide), h6.ne (by decide), h7.ne (by decide), h8.ne (by decide), .same, h11.ne (by decide), h12.ne (by decide), h13.ne (by decide), h16.turn (by decide) (fun g => hT g _ _ (by decide)), hBT, hA.turn (by decide) (fun _ hj => by rw [h5d] at hj; cases hj), .used, o1.ne (by decide), .same (hr { on := 9, ground := .data } (by simp) rfl), o3.ne (by decide), hI.turn (by decide) (fun hi => by rw [n14] at hi; cases hi), hO.ne (by decide) (by decide)⟩)
          · exact op_move (.tmp 4) rfl _ rfl (hK _ _ ⟨h0.ne (by decide), h1.ne (by decide), h2.ne (by decide), h3.ne (by decide), h5.ne (by decide), h6.ne (by decide), h7.ne (by decide), h8.ne (by decide), h10.ne (by decide), .same, h12.ne (by decide), h13.ne (by decide), h16.ne (by decide) (Below.refl _ _), hb, hA.ne (by decide) (Below.refl _ _), hB.ne (by decide) (Below.refl _ _), o1.ne (by decide), o2.ne (by decide), o3.ne (by decide), hI.ne (by decide) (Below.refl _ _), hO.ne (by decide) (by decide)⟩)
          · exact op_indexAt 59 (.tmp 43) (.const (.int .i64 2)) rfl _ _ _ (h11 (hr { on := 11, ground := .data } (by simp) rfl)) rfl HI2.out (hK _ _ ⟨h0.ne (by decide), h1.ne (by decide), h2.ne (by decide), h3.ne (by decide), h5.ne (by decide), h6.ne (by decide), h7.ne (by decide), h8.ne (by decide), h10.ne (by decide), h11.ne (by decide), .same, h13.ne (by decide), h16.ne (by decide) (Below.refl _ _), hb, hA.ne (by decide) (Below.refl _ _), hB.ne (by decide) (Below.refl _ _), o1.ne (by decide), o2.ne (by decide), o3.ne (by decide), hI.ne (by decide) (Below.refl _ _), hO.ne (by decide) (by decide)⟩)
          · exact op_load_cell 9 (.tmp 44) rfl _ _ (h12 (hr { on := 12, ground := .data } (by simp) rfl)) ((hb.cell (p := ⟨g, og + 2, none⟩) HG4.out).trans HE2.out) Try.isAgg9 (hK _ _ ⟨h0.ne (by decide), h1.ne (by decide), h2.ne (by decide), h3.ne (by decide), h5.ne (by decide), h6.ne (by decide), h7.ne (by decide), h8.ne (by decide), h10.ne (by decide), h11.ne (by decide), h12.ne (by decide), .same, h16.ne (by decide) (Below.refl _ _), hb, hA.ne (by decide) (Below.refl _ _), hB.ne (by decide) (Below.refl _ _), o1.ne (by decide), o2.ne (by decide), o3.ne (by decide), hI.ne (by decide) (Below.refl _ _), hO.ne (by decide) (by decide)⟩)
          · have hch := hr { on := 10, ground := .chain } (by simp) rfl
            refine op_call Try.func36 rfl rfl rfl [.string ⟨p.toArray⟩] (congrArg (fun x => [x]) (h13 (hr { on := 13, ground := .data } (by simp) rfl))) (HPT.out wq) ?_
            rintro e w' ⟨⟨v, rfl, hown⟩, hb'⟩
            obtain ⟨pa, pc, rfl⟩ := hown.form
            rw [HLK.out] at hown ⊢
            have hown := hown.mono hb.size
            exact ⟨_, rfl, (hK _ _ ⟨h0.ne (by decide), h1.ne (by decide), h2.ne (by decide), h3.ne (by decide), h5.ne (by decide), h6.ne (by decide), h7.ne (by decide), h8.ne (by decide), h10.ne (by decide), h11.ne (by decide), h12.ne (by decide), h13.ne (by decide), h16.ne (by decide) hb', hb.trans (hb'.mono hb.size), hA.ne (by decide) hb', hB.ne (by decide) hb', o1.ne (by decide), o2.ne (by decide), .same hch, .same hown, hO.first (by decide) hu⟩)⟩
          · obtain ⟨pa, pc, hv14, _⟩ := hI (hr { on := 14, ground := .data } (by simp) rfl)
            exact op_build 28 #[(0, .tmp 32), (1, .tmp 37), (2, .tmp 42), (3, .tmp 46)] rfl [(0, .agg (draftV dd)), (1, .int .i64 (x : Int)), (2, .int .i64 (y : Int)), (3, .slice pa k pc)] (opV o pa pc) (by
                have v0 := (h0 (hr { on := 0, ground := .data } (by simp) rfl))
                have v5 := (h5 (hr { on := 5, ground := .data } (by simp) rfl))
                have v10 := (h10 (hr { on := 10, ground := .data } (by simp) rfl))
                rw [List.map_toArray]
                show [((0 : Nat), V 0), (1, V 5), (2, V 10), (3, V 14)].toArray = _
                rw [v0, v5, v10, hv14]) (HBD.out pa pc) (hK _ _ ⟨h0.ne (by decide), h1.ne (by decide), h2.ne (by decide), h3.ne (by decide), h5.ne (by decide), h6.ne (by decide), h7.ne (by decide), h8.ne (by decide), h10.ne (by decide), h11.ne (by decide), h12.ne (by decide), h13.ne (by decide), h16.ne (by decide) (Below.refl _ _), hb, hA.ne (by decide) (Below.refl _ _), hB.ne (by decide) (Below.refl _ _), o1.ne (by decide), o2.ne (by decide), o3.ne (by decide), hI.ne (by decide) (Below.refl _ _), BuiltI.same (i := 14) (j := 15) (f := fun pa pc => .agg (opV o pa pc)) (by decide) (hr { on := 14, ground := .data } (by simp) rfl) hv14⟩)
          · exact op_alloc 28 rfl (opV zeroO none 0) HAL.out (hK _ _ ⟨h0.ne (by decide), h1.ne (by decide), h2.ne (by decide), h3.ne (by decide), h5.ne (by decide), h6.ne (by decide), h7.ne (by decide), h8.ne (by decide), h10.ne (by decide), h11.ne (by decide), h12.ne (by decide), h13.ne (by decide), .same hb.size, hb.alloc hb.size _, hA.ne (by decide) ((Below.refl _ _).alloc (Nat.le_refl _) _), hB.ne (by decide) ((Below.refl _ _).alloc (Nat.le_refl _) _), o1.ne (by decide), o2.ne (by decide), o3.ne (by decide), hI.ne (by decide) ((Below.refl _ _).alloc (Nat.le_refl _) _), hO.ne (by decide) (by decide)⟩)
        rintro q V wq hall ⟨h0, h1, h2, h3, h5, h6, h7, h8, h10, h11, h12, h13, h16, hb, hA, hB, o1, o2, o3, hI, hO⟩
        have v0 := h0 (hall 0 (by decide))
        have v1 := h1 (hall 1 (by decide))
        have v2 := h2 (hall 2 (by decide))
        have v3 := h3 (hall 3 (by decide))
        obtain ⟨u4, v4⟩ : ∃ v, V 4 = v := ⟨_, rfl⟩
        have v5 := h5 (hall 5 (by decide))
        have v6 := h6 (hall 6 (by decide))
        have v7 := h7 (hall 7 (by decide))
        have v8 := h8 (hall 8 (by decide))
        obtain ⟨u9, v9⟩ : ∃ v, V 9 = v := ⟨_, rfl⟩
        have v10 := h10 (hall 10 (by decide))
        have v11 := h11 (hall 11 (by decide))
        have v12 := h12 (hall 12 (by decide))
        have v13 := h13 (hall 13 (by decide))
        obtain ⟨g16, v16, hg16, hc16⟩ := h16 (hall 16 (by decide))
        obtain ⟨_, pa, pc, v14, v15⟩ := hO (hall 15 (by decide))
        obtain ⟨pa', pc', v14', hown⟩ := hI (hall 14 (by decide))
        obtain ⟨rfl, rfl⟩ : pa = pa' ∧ pc = pc' := by rw [v14] at v14'; injection v14' with a b c; exact ⟨a, c⟩
        simp only [List.take_succ_cons, List.take_zero, List.drop_succ_cons, List.drop_zero, putAll, Nat.zero_add, Nat.reduceAdd, v0, v1, v2, v3, v4, v5, v6, v7, v8, v9, v10, v11, v12, v13, v14, v15, v16, Act.put, List.setIfInBounds_toArray, List.set_cons_zero, List.set_cons_succ]
        clear h0 h1 h2 h3 h5 h6 h7 h8 h10 h11 h12 h13 v0 v1 v2 v3 v4 v5 v6 v7 v8 v9 v10 v11 v12 v13 v14 v15 v16 hall
        have HG16 := Lib.hid hg16
        have HC16 := Lib.hid hc16
        have HB5 := Lib.hid hb
        have HOW := Lib.hid hown
        have HAP := Lib.hid (hown.notCells hc16 (by decide))
        have HSO := Lib.hid (show ∀ (pa : Option Addr) (pc : Nat), (Try.prog.info? 28).map (·.size) = some (opV o pa pc).size from fun pa pc => by rw [opV_size HOR.out]; exact Try.sizeO)
        have HSP := Lib.hid (show (opV zeroO none 0).size = (opV o pa pc).size by rw [opV_size HOR.out]; rfl)
        have HXW := Lib.hid (show w.heap.size < w4.heap.size from HX4.out.lt)
        have HNE := Lib.hid (show w.heap.size ≠ g16 from by have h1 := HX4.out.lt; omega)
        clear HI0 HI1 HI2 HAL HBD HDZ hg16 hc16 hb hown v14' hA hB o1 o2 o3 hI hO HE0 HE1 HE2 HG4 HPT HV4 HVL HTA HTB HSD
        refine wpList_store_cells rfl 28 (.tmp 7) (.tmp 47) rfl rfl g16 _ (opV o pa pc) 28 rfl rfl HC16.out (HSO.out pa pc) HSP.out (opV_all o pa pc) ?_
        intro w5 hc hb
        have HV := Lib.hid hc.out
        have HX5 := Lib.hid ((HX4.out.below HB5.out).but hb.out HNE.out)
        have HBW := Lib.hid (HB4.out.trans ((But.toBelow HB5.out hb.out HG16.out HB5.out.size).mono HB4.out.size))
        have HOW5 := Lib.hid (HOW.out.but hb.out HAP.out)
        clear hc hb HC16 HB5 HX4 HOW HAP HG16
        have hok : o.Ok := ⟨by rw [HO.out]; exact HDF.out.1, by rw [HO.out]; exact HLI.out⟩
        have hia := HOW5.out.at HLI.out
        have hop : o.preds = L := by rw [HO.out]
        have HNEW := Lib.hid (push_new HOW5.out)
        have HIA := Lib.hid (show IAt pa o.preds w5 by rw [hop]; exact hia)
        have HOK := Lib.hid hok
        have hkl := HDF.out.2.1
        have hvl := HDF.out.2.2
        have hod : o.d = dd := by rw [HO.out]
        have hnl : o.preds.length ≤ 140737488351232 := by rw [hop, HLK.out]; have := HKL.out; omega
        have HGD := Lib.hid (fun w' (h : IAt pa o.preds w') => dev_goodOp o pa pc w' HOK.out h (by rw [hod]; omega) (by rw [hod]; omega) hnl)
        have HR0 := Shut.mk (show readO s = if GoodO o ∧ opB o = s then some o else none by
          have h := readO_dev HL.out HOD.out
          rw [HOE.out] at h
          exact h)
        have HDP := Lib.hid (show o.depth ≤ 9223372036854775807 by rw [HO.out]; have := openN_lt tb; rw [HYN.out] at this; show (y : Int) ≤ _; omega)
        obtain ⟨z, hz⟩ : ∃ z, decide (GoodO o) = z := ⟨_, rfl⟩
        have HZ := Shut.mk hz
        rw [hz] at HGD
        clear hz hok hia hop hkl hvl hod hnl HOW5 HL HLR HOD HDF HDE HXN HYN HKL HLK HLI HO HOE HOR
        go_wp2_with (refine wpList_load_cells rfl 28 _ rfl g16 (opV o pa pc) 28 _ rfl HV.out Try.underlying28 rfl (HSO.out pa pc) ?_)
        refine (HGD.out w5 HIA.out).mono ?_
        rintro e w8 ⟨rfl, hb⟩
        have HV8 := Lib.hid (HV.out.below hb)
        have HX8 := Lib.hid (HX5.out.below hb)
        have HB8 := Lib.hid (HBW.out.trans (hb.mono HBW.out.size))
        have HIA8 := Lib.hid (HIA.out.below hb)
        clear hb HV HX5 HBW HGD HIA
        cases z with
        | false =>
          have HR := Shut.mk (HR0.out.trans (if_neg (fun h => of_decide_eq_false HZ.out h.1)))
          clear HV8
          go_upto_region 9 with (fail)
          refine wp_region_lit ?_
          refine wpList_build_val rfl 28 #[] rfl [] _ (by simp) built_op0 ?_
          simp only [Act.put, List.setIfInBounds_toArray, List.set_cons_zero, List.set_cons_succ]
          refine wpList_store_cells rfl 28 _ _ rfl rfl w.heap.size (opV zeroO none 0) (opV zeroO none 0) 28 rfl rfl HX8.out HS.out rfl (opV_all zeroO none 0) ?_
          intro wf hc hb
          have HXF := Lib.hid hc.out
          have HBF := Lib.hid (show Below w.heap.size w wf from But.toBelow HB8.out hb.out (Nat.le_refl _) HB8.out.size)
          clear hc hb HX8 HB8
          go_wp2_with fail
          refine bodyPost_ret (results_cells_tmp rfl _ _ w.heap.size (opV zeroO none 0) 28 _ _ rfl rfl HXF.out Try.underlying28 rfl HS.out) rfl ?_
          exact ⟨by rw [HR.out]; exact DrOPost.none, HBF.out⟩
        | true =>
          have hgd := of_decide_eq_true HZ.out
          have HTX := Lib.hid (dev_text9 o pa pc w8 (hgd.fit HOK.out HDP.out) HIA8.out)
          obtain ⟨T, hT⟩ : ∃ T, opB o = T := ⟨_, rfl⟩
          rw [hT] at HTX
          by_cases hts : T = s
          · have HR := Shut.mk (HR0.out.trans (if_pos ⟨hgd, hT.trans hts⟩))
            have heq : (T == s) = true := by simp [hts]
            clear hgd hT hts
            go_wp2_with (refine wpList_load_cells_want (by rfl) 28 _ rfl g16 (opV o pa pc) 28 _ rfl HV8.out Try.underlying28 rfl (HSO.out pa pc) ?_)
            refine HTX.out.mono ?_
            rintro e w9 ⟨rfl, hb⟩
            have HV9 := Lib.hid (HV8.out.below hb)
            have HX9 := Lib.hid (HX8.out.below hb)
            have HB9 := Lib.hid (HB8.out.trans (hb.mono HB8.out.size))
            have HIA9 := Lib.hid (HIA8.out.below hb)
            clear hb HV8 HX8 HB8 HTX HIA8
            go_upto_region 10 with (fail)
            refine wp_region_lit ?_
            refine wpList_load_cells rfl 28 _ rfl g16 (opV o pa pc) 28 _ rfl HV9.out Try.underlying28 rfl (HSO.out pa pc) ?_
            simp only [Act.put, List.setIfInBounds_toArray, List.set_cons_zero, List.set_cons_succ]
            refine wpList_store_cells rfl 28 _ _ rfl rfl w.heap.size (opV zeroO none 0) (opV o pa pc) 28 rfl rfl HX9.out (HSO.out pa pc) HSP.out (opV_all o pa pc) ?_
            intro w10 hc hb
            have HX10 := Lib.hid hc.out
            have HB10 := Lib.hid (show Below w.heap.size w w10 from But.toBelow HB9.out hb.out (Nat.le_refl _) HB9.out.size)
            have HIA10 := Lib.hid (HIA9.out.grown (row := some w.heap.size) ⟨hb.out.os, hb.out.tape, hb.out.output, hb.out.size, fun i hi hne => hb.out.block i hi (fun e => hne (by rw [e]))⟩ (fun a ha _ e => by have h1 := (HNEW.out a ha).1; have h3 := HXW.out; simp only [Option.some.injEq] at e; omega))
            clear hc hb HX9 HB9 HIA9
            go_wp2_with fail
            refine bodyPost_ret (results_cells_tmp rfl _ _ w.heap.size (opV o pa pc) 28 _ _ rfl rfl HX10.out Try.underlying28 rfl (HSO.out pa pc)) rfl ?_
            exact ⟨by rw [HR.out]; exact ⟨pa, pc, rfl, HIA10.out, fun a ha => Nat.le_trans HB4.out.size (HNEW.out a ha).1⟩, HB10.out⟩
          · have HR := Shut.mk (HR0.out.trans (if_neg (fun h => hts (hT.symm.trans h.2))))
            have heq : (T == s) = false := by simp [hts]
            clear hgd hT hts
            go_wp2_with (refine wpList_load_cells_want (by rfl) 28 _ rfl g16 (opV o pa pc) 28 _ rfl HV8.out Try.underlying28 rfl (HSO.out pa pc) ?_)
            refine HTX.out.mono ?_
            rintro e w9 ⟨rfl, hb⟩
            have HXA := Lib.hid (HX8.out.below hb)
            have HBA := Lib.hid (HB8.out.trans (hb.mono HB8.out.size))
            clear hb HV8 HX8 HB8 HTX HIA8
            go_upto_region 9 with (fail)
            refine wp_region_lit ?_
            refine wpList_build_val rfl 28 #[] rfl [] _ (by simp) built_op0 ?_
            simp only [Act.put, List.setIfInBounds_toArray, List.set_cons_zero, List.set_cons_succ]
            refine wpList_store_cells rfl 28 _ _ rfl rfl w.heap.size (opV zeroO none 0) (opV zeroO none 0) 28 rfl rfl HXA.out HS.out rfl (opV_all zeroO none 0) ?_
            intro wf hc hb
            have HXF := Lib.hid hc.out
            have HBF := Lib.hid (show Below w.heap.size w wf from But.toBelow HBA.out hb.out (Nat.le_refl _) HBA.out.size)
            clear hc hb HXA HBA
            go_wp2_with fail
            refine bodyPost_ret (results_cells_tmp rfl _ _ w.heap.size (opV zeroO none 0) 28 _ _ rfl rfl HXF.out Try.underlying28 rfl HS.out) rfl ?_
            exact ⟨by rw [HR.out]; exact DrOPost.none, HBF.out⟩
    · have hn4 : ((n : Int) != 4) = true := by simp; omega
      have HR := Shut.mk (readO_parts4 (s := s) (by intro a b c d h; rw [HL.out] at h; simp only [Option.some.injEq] at h; subst h; exact h4 (by rw [← hn]; rfl)))
      rw [hn]
      clear HSA hn
      go_upto_region 3 with (fail)
      refine wp_region_lit ?_
      refine wpList_build_val rfl 28 #[] rfl [] _ (by simp) built_op0 ?_
      simp only [Act.put, List.setIfInBounds_toArray, List.set_cons_zero, List.set_cons_succ]
      refine wpList_store_cells rfl 28 _ _ rfl rfl w.heap.size (opV zeroO none 0) (opV zeroO none 0) 28 rfl rfl HX2.out HS.out rfl (opV_all zeroO none 0) ?_
      intro wf hc hb
      have HXF := Lib.hid hc.out
      have HBF := Lib.hid (show Below w.heap.size w wf from But.toBelow HB2.out hb.out (Nat.le_refl _) HB2.out.size)
      clear hc hb HX2 HB2
      go_wp2_with fail
      refine bodyPost_ret (results_cells_tmp rfl _ _ w.heap.size (opV zeroO none 0) 28 _ _ rfl rfl HXF.out Try.underlying28 rfl HS.out) rfl ?_
      exact ⟨by rw [HR.out]; exact DrOPost.none, HBF.out⟩
end Go.Proofs.Ythgfpojfnhkckaa
