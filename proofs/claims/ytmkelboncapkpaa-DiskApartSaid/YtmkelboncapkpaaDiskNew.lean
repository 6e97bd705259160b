/-
  The document's disk: New.
-/
import Derived.Test.YtmkelboncapkpaaDiskSync
namespace Go.Proofs.Ytmkelboncapkpaa
open Go.RowKit Go.BigFrame

theorem wpList_build_ref0 {ops : Array Oper} {rest : List Oper} {o : Oper} {a : Act} {w : World} {Q : Exit → Act → World → Prop} (hg : o.guard = none) (ho : o.op = .build 54 #[])
    (hk : wpList Try.prog ops Q rest (a.put o.dst (.agg (refV (.slice none 0 0) (.slice none 0 0) (.slice none 0 0) false 0 0 0))) w) : wpList Try.prog ops Q (o :: rest) a w := by
  refine wpList_plain hg fun K hK => ?_
  have hb := run_build (P := Try.prog) w 54 #[] (refV (.slice none 0 0) (.slice none 0 0) (.slice none 0 0) false 0 0 0) (by kernel_rfl)
  unfold Oper.wp execOp
  simp only [ho, List.map_toArray, List.map_nil, Sem.run_bind, hb, Result.andThen_ok]
  exact hK _ _ hk

set_option maxHeartbeats 4000000 in
set_option maxRecDepth 100000 in
theorem ref_new (n : Int) (w : World) :
    Calls Try.prog 10 #[.int .i64 n] w fun e w' => (∃ g vS vA vD, e = .returned (.pointer (some ⟨g, 0, none⟩)) ∧ RefAt g vS vA vD (newS n) w' ∧ (∀ b, refO g vS vA vD b → w.heap.size ≤ b)) ∧ Below w.heap.size w w' := by
  obtain ⟨N, hN⟩ : ∃ N, sizeN n = N := ⟨_, rfl⟩
  have HNW := Shut.mk (show newS n = ⟨List.replicate N (List.replicate 128 0), [], false, 0, 0, 0⟩ by rw [newS, hN])
  have hN2 : N = min n.toNat 16384 := by rw [← hN]; rfl
  have HN := Lib.hid (show N ≤ 16384 by omega)
  clear hN
  have HZP := Shut.mk (show padN [] = List.replicate 128 0 from rfl)
  go_enter Try.func10, Try.ntmps10
  by_cases hn : 16384 < n
  · have HLT := Lib.hid (show ∀ k : Nat, k < N → (k : Int) < 16384 from fun k hk => by omega)
    have HGEM := Lib.hid (show ¬ (N : Int) < 16384 by omega)
    clear hN2
    go_wp2_with (refine wpList_build_ref0 rfl rfl ?_)
    go_loopw [4] (fun i wq => ∃ (k : Nat) (vS : Value), k ≤ N ∧ i = .int .i64 k ∧ RefAll w.heap.size vS (.slice none 0 0) (.slice none 0 0) (List.replicate k (List.replicate 128 0)) [] [] false 0 0 0 wq ∧ (∀ b, vS.ownBlock = some b → w.heap.size ≤ b) ∧ Below w.heap.size w wq) (fun i _ => N - (intOf i).toNat)
    case atStart => exact ⟨0, .slice none 0 0, by omega, rfl, ⟨heap_alloc_new w _, RowV.nil _ _, RowV.nil _ _, RowV.nil _ _, fun b hb _ => by cases hb⟩, (fun b hb => by cases hb), (Below.refl _ _).alloc (Nat.le_refl _) _⟩
    case round =>
      obtain ⟨k, vS, hk, rfl, hr, hov, hb⟩ := hrel
      have HW0 := Lib.hid (show w.heap.size ≤ w.heap.size from Nat.le_refl _)
      obtain ⟨g, hg⟩ : ∃ g, g = w.heap.size := ⟨_, rfl⟩
      rw [← hg] at hr
      have HGE := Shut.mk hg
      have HR := Lib.hid hr
      have HOV := Lib.hid hov
      have HB := Lib.hid hb
      clear hr hov hb hg
      by_cases hlk : k < N
      · have hlk2 : (k : Int) < 16384 := HLT.out k hlk
        have HSL := Lib.hid (show (strs (List.replicate k (List.replicate 128 0))).length ≤ 1000000 by rw [strs_length, List.length_replicate]; have := HN.out; omega)
        have HNX := Shut.mk (show List.replicate k (List.replicate 128 0) ++ [List.replicate 128 0] = List.replicate (k + 1) (List.replicate 128 (0 : UInt8)) from List.replicate_succ'.symm)
        obtain ⟨L, hL⟩ : ∃ L, List.replicate k (List.replicate 128 (0 : UInt8)) = L := ⟨_, rfl⟩
        rw [hL] at HR HSL HNX
        have HPD := Lib.hid (fun w' => ref_pad [] w' (by decide))
        rw [HZP.out] at HPD
        obtain ⟨Z, hZ⟩ : ∃ Z, List.replicate 128 (0 : UInt8) = Z := ⟨_, rfl⟩
        rw [hZ] at HPD HNX
        have HZE := Shut.mk hZ
        clear hL hZ
        go_upto_region 7 with (fail)
        rw [← HGE.out]
        have HFA := Lib.hid (show ∀ w, (Instr.fieldAt 54 (.pointer (some ⟨g, 0, none⟩)) 0).run Try.prog w = .ok (.pointer (some ⟨g, 0, none⟩)) w from fun w => by go_simp)
        have HBL := Lib.hid (show ∀ w : World, (Instr.buildSlice 45 1 #[(0, .string ⟨Z.toArray⟩)]).run Try.prog w = .ok (.slice (some ⟨w.heap.size, 0, none⟩) 1 1) (w.alloc (.cells #[.string ⟨Z.toArray⟩] 9)) from fun w => by go_simp)
        have HAB := Lib.hid (fun (w' w'' : World) (h : Below w'.heap.size w' w'') (ha : w'.cell? ⟨g, 0, none⟩ = some vS) => show w''.cell? ⟨g, 0, none⟩ = some vS from (h.cell (p := ⟨g, 0, none⟩) (block_lt_of_cell ha)).trans ha)
        have HMB := Lib.hid (fun (w' w'' : World) (h : Below w'.heap.size w' w'') (ha : RefAll g vS (.slice none 0 0) (.slice none 0 0) L [] [] false 0 0 0 w' ∧ Below w.heap.size w w') => show RefAll g vS (.slice none 0 0) (.slice none 0 0) L [] [] false 0 0 0 w'' ∧ Below w.heap.size w w'' from ⟨ha.1.below h, ha.2.trans (h.mono ha.2.size)⟩)
        have HAP := Lib.hid (fun (w' w'' : World) (ha : RefAll g vS (.slice none 0 0) (.slice none 0 0) L [] [] false 0 0 0 w' ∧ Below w.heap.size w w') (hal : w'.cell? ⟨g, 0, none⟩ = some vS) (hg : w'.grownBy w'' vS.ownBlock) => show w''.cell? ⟨g, 0, none⟩ = some vS from hg.cell hal (fun e => ha.1.safe.notCells ha.1.cells (by decide) e.symm))
        have HST := Lib.hid (show wr.cell? ⟨g, 0, none⟩ = some vS ∧ RefAll g vS (.slice none 0 0) (.slice none 0 0) L [] [] false 0 0 0 wr ∧ Below w.heap.size w wr from ⟨HR.out.cells.at 0, HR.out, HB.out⟩)
        clear HR HB
        refine wp_region_free 8 (fun q V w' => Val q V 0 (.pointer (some ⟨g, 0, none⟩)) ∧ Val q V 1 (.pointer (some ⟨g, 0, none⟩)) ∧ Val q V 2 (.pointer (some ⟨g, 0, none⟩)) ∧ Val q V 3 (.pointer (some ⟨g, 0, none⟩)) ∧ Val q V 4 (vS) ∧ Val q V 5 (.string ⟨Z.toArray⟩) ∧ PushInv 6 7 (fun w' => w'.cell? ⟨g, 0, none⟩ = some vS) (fun w' => RefAll g vS (.slice none 0 0) (.slice none 0 0) L [] [] false 0 0 0 w' ∧ Below w.heap.size w w') (fun wa v w' => RowV 9 v (strs L ++ [.string ⟨Z.toArray⟩]) w' ∧ wa.grownBy w' vS.ownBlock ∧ (v.ownBlock = vS.ownBlock ∨ v.ownBlock = some wa.heap.size)) (.string ⟨Z.toArray⟩) q V w') (fun | 0 => u14 | 1 => u15 | 2 => u16 | 3 => u17 | 4 => u18 | 5 => u19 | 6 => u20 | 7 => u21 | _ => undef) (by kernel_rfl) (by kernel_rfl) (by kernel_rfl) (by simp only [List.take_succ_cons, List.take_zero, putAll, Act.put, List.setIfInBounds_toArray, List.set_cons_zero, List.set_cons_succ]) ⟨Val.none, Val.none, Val.none, Val.none, Val.none, Val.none, PushInv.none (HAB.out _ _ (Below.refl _ _).drew HST.out.1) (HMB.out _ _ (Below.refl _ _).drew HST.out.2)⟩ ?_ ?_
        · simp only [List.take_succ_cons, List.take_zero, putAll, Nat.zero_add, Nat.reduceAdd, Act.put, List.setIfInBounds_toArray, List.set_cons_zero, List.set_cons_succ]
          refine FreeSteps.cons ?_ (FreeSteps.cons ?_ (FreeSteps.cons ?_ (FreeSteps.cons ?_ (FreeSteps.cons ?_ (FreeSteps.cons ?_ (FreeSteps.cons ?_ (FreeSteps.cons ?_ FreeSteps.nil)))))))
          all_goals (refine FreeStep.fresh rfl ?_; rintro q V wq hr hu ⟨h0, h1, h2, h3, h4, h5, hp⟩ K hK)
          · exact op_move (.tmp 3) rfl _ rfl (hK _ _ ⟨.same, h1.ne (by decide), h2.ne (by decide), h3.ne (by decide), h4.ne (by decide), h5.ne (by decide), hp.ne (by decide) (by decide)⟩)
          · exact op_move (.tmp 3) rfl _ rfl (hK _ _ ⟨h0.ne (by decide), .same, h2.ne (by decide), h3.ne (by decide), h4.ne (by decide), h5.ne (by decide), hp.ne (by decide) (by decide)⟩)
          · exact op_nilCheck (.tmp 15) rfl _ (h1 (hr { on := 1, ground := .data } (by simp) rfl)) (hK _ _ ⟨h0.ne (by decide), h1.ne (by decide), .same, h3.ne (by decide), h4.ne (by decide), h5.ne (by decide), hp.ne (by decide) (by decide)⟩)
          · exact op_fieldAt 54 (.tmp 16) 0 rfl _ _ (h2 (hr { on := 2, ground := .data } (by simp) rfl)) HFA.out (hK _ _ ⟨h0.ne (by decide), h1.ne (by decide), h2.ne (by decide), .same, h4.ne (by decide), h5.ne (by decide), hp.ne (by decide) (by decide)⟩)
          · exact op_load_cell 45 (.tmp 17) rfl _ vS (h3 (hr { on := 3, ground := .data } (by simp) rfl)) hp.always Try.isAgg45 (hK _ _ ⟨h0.ne (by decide), h1.ne (by decide), h2.ne (by decide), h3.ne (by decide), .same, h5.ne (by decide), hp.ne (by decide) (by decide)⟩)
          · refine op_call Try.func23 rfl rfl rfl [.string ⟨([] : List UInt8).toArray⟩] rfl (HPD.out wq) ?_
            rintro e w' ⟨rfl, rfl⟩
            exact ⟨_, rfl, hK _ _ ⟨h0.ne (by decide), h1.ne (by decide), h2.ne (by decide), h3.ne (by decide), h4.ne (by decide), .same, hp.ne (by decide) (by decide)⟩⟩
          · have hba : Below wq.heap.size wq (wq.alloc (.cells #[.string ⟨Z.toArray⟩] 9)) := (Below.refl _ _).alloc (Nat.le_refl _) _
            exact op_build1 45 9 (.tmp 19) rfl (.string ⟨Z.toArray⟩) (h5 (hr { on := 5, ground := .data } (by simp) rfl)) HBL.out (hK _ _ ⟨h0.ne (by decide), h1.ne (by decide), h2.ne (by decide), h3.ne (by decide), h4.ne (by decide), h5.ne (by decide), hp.build hu (by decide) (HAB.out _ _ hba hp.always) (fun h => HMB.out _ _ hba h)⟩)
          · have h6 := hr { on := 6, ground := .data } (by simp) rfl
            obtain ⟨gl, hv8, hc8⟩ := hp.lit h6 hu
            refine op_push (.tmp 18) (.tmp 20) 45 9 rfl (.string ⟨#[]⟩) 16 rfl (by decide) Try.underlying45 Try.infoString vS (strs L) (.string ⟨Z.toArray⟩) rfl ⟨gl, 0, none⟩ 1 (h4 (hr { on := 4, ground := .data } (by simp) rfl)) (hp.mid hu).1.safe hv8 hc8 HSL.out ?_
            intro v' w' hrow hg hv
            exact hK _ _ ⟨h0.ne (by decide), h1.ne (by decide), h2.ne (by decide), h3.ne (by decide), h4.ne (by decide), h5.ne (by decide), hp.push h6 hu (HAP.out _ _ (hp.mid hu) hp.always hg) ⟨hrow, hg, hv⟩⟩
        rintro q V w5 hall ⟨h0, h1, h2, h3, h4, h5, hp⟩
        have v0 := h0 (hall 0 (by decide))
        have v1 := h1 (hall 1 (by decide))
        have v2 := h2 (hall 2 (by decide))
        have v3 := h3 (hall 3 (by decide))
        have v4 := h4 (hall 4 (by decide))
        have v5 := h5 (hall 5 (by decide))
        obtain ⟨wa, ⟨hra, hba⟩, hr5, hg5, hv5⟩ := hp.fin (hall 7 (by decide))
        obtain ⟨v6v, v6⟩ : ∃ v, V 6 = v := ⟨_, rfl⟩
        obtain ⟨p5, q5, hq5⟩ := hr5.form
        obtain ⟨n5, hn5⟩ : ∃ n, (strs L ++ [Value.string ⟨Z.toArray⟩]).length = n := ⟨_, rfl⟩
        rw [hn5] at hq5
        rw [hq5] at hr5 hv5
        simp only [List.take_succ_cons, List.take_zero, List.drop_succ_cons, List.drop_zero, putAll, Nat.zero_add, Nat.reduceAdd, v0, v1, v2, v3, v4, v5, v6, hq5, Act.put, List.setIfInBounds_toArray, List.set_cons_zero, List.set_cons_succ]
        clear h0 h1 h2 h3 h4 h5 hp v0 v1 v2 v3 v4 v5 v6 hall hn5 hq5
        have HR5 := Lib.hid (hra.pushS hr5 hg5 hv5)
        have HB5 := Lib.hid (show Below w.heap.size w w5 from hba.grown hg5 hba.size (fun b hb => HOV.out b hb))
        have HV5 := Lib.hid (show ∀ b, (Value.slice p5 n5 q5).ownBlock = some b → w.heap.size ≤ b from fun b hb => by
          rcases hv5 with h | h
          · exact HOV.out b (by rw [← h]; exact hb)
          · rw [h] at hb
            have := hba.size
            simp only [Option.some.injEq] at hb
            omega)
        have hc5 : Cells g 54 (refV vS (.slice none 0 0) (.slice none 0 0) false 0 0 0) w5 := (hg5.block g hra.cells.lt (fun e => hra.safe.notCells hra.cells (by decide) e.symm)).trans hra.cells
        have c50 : w5.cell? ⟨g, 0, none⟩ = some vS := hc5.at 0
        have f50 := hc5.frozen 0
        clear hr5 hg5 hv5 hc5 hra hba HSL HPD HFA HBL HAB HMB HAP HST HOV
        have hge := HGE.out
        clear HGE
        subst hge
        go_wp2_with fail
        refine ⟨⟨k + 1, .slice p5 n5 q5, by omega, by go_num, ?_, HV5.out, Below.setCell HB5.out (Nat.le_refl _) _⟩, by simp [intOf]; omega⟩
        rw [HZE.out, ← HNX.out]
        exact HR5.out
      · obtain rfl : k = N := by omega
        have hnw : ¬ (k : Int) < 16384 := by have := HGEM.out; omega
        have hge := HGE.out
        clear HGE
        subst hge
        go_wp2_with fail
        go_ret
        refine ⟨⟨w.heap.size, rfl, vS, .slice none 0 0, .slice none 0 0, by rw [HNW.out]; exact ⟨HR.out.cells, HR.out.safe, HR.out.at', HR.out.data, HR.out.apart⟩, ?_⟩, HB.out⟩
        rintro b (hb | hb | hb | hb)
        · omega
        · exact HOV.out b hb
        · cases hb
        · cases hb
  · have HLT := Lib.hid (show ∀ k : Nat, k < N → (k : Int) < n from fun k hk => by omega)
    have HGEM := Lib.hid (show ¬ (N : Int) < n by omega)
    clear hN2
    go_wp2_with (refine wpList_build_ref0 rfl rfl ?_)
    go_loopw [4] (fun i wq => ∃ (k : Nat) (vS : Value), k ≤ N ∧ i = .int .i64 k ∧ RefAll w.heap.size vS (.slice none 0 0) (.slice none 0 0) (List.replicate k (List.replicate 128 0)) [] [] false 0 0 0 wq ∧ (∀ b, vS.ownBlock = some b → w.heap.size ≤ b) ∧ Below w.heap.size w wq) (fun i _ => N - (intOf i).toNat)
    case atStart => exact ⟨0, .slice none 0 0, by omega, rfl, ⟨heap_alloc_new w _, RowV.nil _ _, RowV.nil _ _, RowV.nil _ _, fun b hb _ => by cases hb⟩, (fun b hb => by cases hb), (Below.refl _ _).alloc (Nat.le_refl _) _⟩
    case round =>
      obtain ⟨k, vS, hk, rfl, hr, hov, hb⟩ := hrel
      have HW0 := Lib.hid (show w.heap.size ≤ w.heap.size from Nat.le_refl _)
      obtain ⟨g, hg⟩ : ∃ g, g = w.heap.size := ⟨_, rfl⟩
      rw [← hg] at hr
      have HGE := Shut.mk hg
      have HR := Lib.hid hr
      have HOV := Lib.hid hov
      have HB := Lib.hid hb
      clear hr hov hb hg
      by_cases hlk : k < N
      · have hlk2 : (k : Int) < n := HLT.out k hlk
        have HSL := Lib.hid (show (strs (List.replicate k (List.replicate 128 0))).length ≤ 1000000 by rw [strs_length, List.length_replicate]; have := HN.out; omega)
        have HNX := Shut.mk (show List.replicate k (List.replicate 128 0) ++ [List.replicate 128 0] = List.replicate (k + 1) (List.replicate 128 (0 : UInt8)) from List.replicate_succ'.symm)
        obtain ⟨L, hL⟩ : ∃ L, List.replicate k (List.replicate 128 (0 : UInt8)) = L := ⟨_, rfl⟩
        rw [hL] at HR HSL HNX
        have HPD := Lib.hid (fun w' => ref_pad [] w' (by decide))
        rw [HZP.out] at HPD
        obtain ⟨Z, hZ⟩ : ∃ Z, List.replicate 128 (0 : UInt8) = Z := ⟨_, rfl⟩
        rw [hZ] at HPD HNX
        have HZE := Shut.mk hZ
        clear hL hZ
        go_upto_region 7 with (fail)
        rw [← HGE.out]
        have HFA := Lib.hid (show ∀ w, (Instr.fieldAt 54 (.pointer (some ⟨g, 0, none⟩)) 0).run Try.prog w = .ok (.pointer (some ⟨g, 0, none⟩)) w from fun w => by go_simp)
        have HBL := Lib.hid (show ∀ w : World, (Instr.buildSlice 45 1 #[(0, .string ⟨Z.toArray⟩)]).run Try.prog w = .ok (.slice (some ⟨w.heap.size, 0, none⟩) 1 1) (w.alloc (.cells #[.string ⟨Z.toArray⟩] 9)) from fun w => by go_simp)
        have HAB := Lib.hid (fun (w' w'' : World) (h : Below w'.heap.size w' w'') (ha : w'.cell? ⟨g, 0, none⟩ = some vS) => show w''.cell? ⟨g, 0, none⟩ = some vS from (h.cell (p := ⟨g, 0, none⟩) (block_lt_of_cell ha)).trans ha)
        have HMB := Lib.hid (fun (w' w'' : World) (h : Below w'.heap.size w' w'') (ha : RefAll g vS (.slice none 0 0) (.slice none 0 0) L [] [] false 0 0 0 w' ∧ Below w.heap.size w w') => show RefAll g vS (.slice none 0 0) (.slice none 0 0) L [] [] false 0 0 0 w'' ∧ Below w.heap.size w w'' from ⟨ha.1.below h, ha.2.trans (h.mono ha.2.size)⟩)
        have HAP := Lib.hid (fun (w' w'' : World) (ha : RefAll g vS (.slice none 0 0) (.slice none 0 0) L [] [] false 0 0 0 w' ∧ Below w.heap.size w w') (hal : w'.cell? ⟨g, 0, none⟩ = some vS) (hg : w'.grownBy w'' vS.ownBlock) => show w''.cell? ⟨g, 0, none⟩ = some vS from hg.cell hal (fun e => ha.1.safe.notCells ha.1.cells (by decide) e.symm))
        have HST := Lib.hid (show wr.cell? ⟨g, 0, none⟩ = some vS ∧ RefAll g vS (.slice none 0 0) (.slice none 0 0) L [] [] false 0 0 0 wr ∧ Below w.heap.size w wr from ⟨HR.out.cells.at 0, HR.out, HB.out⟩)
        clear HR HB
        refine wp_region_free 8 (fun q V w' => Val q V 0 (.pointer (some ⟨g, 0, none⟩)) ∧ Val q V 1 (.pointer (some ⟨g, 0, none⟩)) ∧ Val q V 2 (.pointer (some ⟨g, 0, none⟩)) ∧ Val q V 3 (.pointer (some ⟨g, 0, none⟩)) ∧ Val q V 4 (vS) ∧ Val q V 5 (.string ⟨Z.toArray⟩) ∧ PushInv 6 7 (fun w' => w'.cell? ⟨g, 0, none⟩ = some vS) (fun w' => RefAll g vS (.slice none 0 0) (.slice none 0 0) L [] [] false 0 0 0 w' ∧ Below w.heap.size w w') (fun wa v w' => RowV 9 v (strs L ++ [.string ⟨Z.toArray⟩]) w' ∧ wa.grownBy w' vS.ownBlock ∧ (v.ownBlock = vS.ownBlock ∨ v.ownBlock = some wa.heap.size)) (.string ⟨Z.toArray⟩) q V w') (fun | 0 => u14 | 1 => u15 | 2 => u16 | 3 => u17 | 4 => u18 | 5 => u19 | 6 => u20 | 7 => u21 | _ => undef) (by kernel_rfl) (by kernel_rfl) (by kernel_rfl) (by simp only [List.take_succ_cons, List.take_zero, putAll, Act.put, List.setIfInBounds_toArray, List.set_cons_zero, List.set_cons_succ]) ⟨Val.none, Val.none, Val.none, Val.none, Val.none, Val.none, PushInv.none (HAB.out _ _ (Below.refl _ _).drew HST.out.1) (HMB.out _ _ (Below.refl _ _).drew HST.out.2)⟩ ?_ ?_
        · simp only [List.take_succ_cons, List.take_zero, putAll, Nat.zero_add, Nat.reduceAdd, Act.put, List.setIfInBounds_toArray, List.set_cons_zero, List.set_cons_succ]
          refine FreeSteps.cons ?_ (FreeSteps.cons ?_ (FreeSteps.cons ?_ (FreeSteps.cons ?_ (FreeSteps.cons ?_ (FreeSteps.cons ?_ (FreeSteps.cons ?_ (FreeSteps.cons ?_ FreeSteps.nil)))))))
          all_goals (refine FreeStep.fresh rfl ?_; rintro q V wq hr hu ⟨h0, h1, h2, h3, h4, h5, hp⟩ K hK)
          · exact op_move (.tmp 3) rfl _ rfl (hK _ _ ⟨.same, h1.ne (by decide), h2.ne (by decide), h3.ne (by decide), h4.ne (by decide), h5.ne (by decide), hp.ne (by decide) (by decide)⟩)
          · exact op_move (.tmp 3) rfl _ rfl (hK _ _ ⟨h0.ne (by decide), .same, h2.ne (by decide), h3.ne (by decide), h4.ne (by decide), h5.ne (by decide), hp.ne (by decide) (by decide)⟩)
          · exact op_nilCheck (.tmp 15) rfl _ (h1 (hr { on := 1, ground := .data } (by simp) rfl)) (hK _ _ ⟨h0.ne (by decide), h1.ne (by decide), .same, h3.ne (by decide), h4.ne (by decide), h5.ne (by decide), hp.ne (by decide) (by decide)⟩)
          · exact op_fieldAt 54 (.tmp 16) 0 rfl _ _ (h2 (hr { on := 2, ground := .data } (by simp) rfl)) HFA.out (hK _ _ ⟨h0.ne (by decide), h1.ne (by decide), h2.ne (by decide), .same, h4.ne (by decide), h5.ne (by decide), hp.ne (by decide) (by decide)⟩)
          · exact op_load_cell 45 (.tmp 17) rfl _ vS (h3 (hr { on := 3, ground := .data } (by simp) rfl)) hp.always Try.isAgg45 (hK _ _ ⟨h0.ne (by decide), h1.ne (by decide), h2.ne (by decide), h3.ne (by decide), .same, h5.ne (by decide), hp.ne (by decide) (by decide)⟩)
          · refine op_call Try.func23 rfl rfl rfl [.string ⟨([] : List UInt8).toArray⟩] rfl (HPD.out wq) ?_
            rintro e w' ⟨rfl, rfl⟩
            exact ⟨_, rfl, hK _ _ ⟨h0.ne (by decide), h1.ne (by decide), h2.ne (by decide), h3.ne (by decide), h4.ne (by decide), .same, hp.ne (by decide) (by decide)⟩⟩
          · have hba : Below wq.heap.size wq (wq.alloc (.cells #[.string ⟨Z.toArray⟩] 9)) := (Below.refl _ _).alloc (Nat.le_refl _) _
            exact op_build1 45 9 (.tmp 19) rfl (.string ⟨Z.toArray⟩) (h5 (hr { on := 5, ground := .data } (by simp) rfl)) HBL.out (hK _ _ ⟨h0.ne (by decide), h1.ne (by decide), h2.ne (by decide), h3.ne (by decide), h4.ne (by decide), h5.ne (by decide), hp.build hu (by decide) (HAB.out _ _ hba hp.always) (fun h => HMB.out _ _ hba h)⟩)
          · have h6 := hr { on := 6, ground := .data } (by simp) rfl
            obtain ⟨gl, hv8, hc8⟩ := hp.lit h6 hu
            refine op_push (.tmp 18) (.tmp 20) 45 9 rfl (.string ⟨#[]⟩) 16 rfl (by decide) Try.underlying45 Try.infoString vS (strs L) (.string ⟨Z.toArray⟩) rfl ⟨gl, 0, none⟩ 1 (h4 (hr { on := 4, ground := .data } (by simp) rfl)) (hp.mid hu).1.safe hv8 hc8 HSL.out ?_
            intro v' w' hrow hg hv
            exact hK _ _ ⟨h0.ne (by decide), h1.ne (by decide), h2.ne (by decide), h3.ne (by decide), h4.ne (by decide), h5.ne (by decide), hp.push h6 hu (HAP.out _ _ (hp.mid hu) hp.always hg) ⟨hrow, hg, hv⟩⟩
        rintro q V w5 hall ⟨h0, h1, h2, h3, h4, h5, hp⟩
        have v0 := h0 (hall 0 (by decide))
        have v1 := h1 (hall 1 (by decide))
        have v2 := h2 (hall 2 (by decide))
        have v3 := h3 (hall 3 (by decide))
        have v4 := h4 (hall 4 (by decide))
        have v5 := h5 (hall 5 (by decide))
        obtain ⟨wa, ⟨hra, hba⟩, hr5, hg5, hv5⟩ := hp.fin (hall 7 (by decide))
        obtain ⟨v6v, v6⟩ : ∃ v, V 6 = v := ⟨_, rfl⟩
        obtain ⟨p5, q5, hq5⟩ := hr5.form
        obtain ⟨n5, hn5⟩ : ∃ n, (strs L ++ [Value.string ⟨Z.toArray⟩]).length = n := ⟨_, rfl⟩
        rw [hn5] at hq5
        rw [hq5] at hr5 hv5
        simp only [List.take_succ_cons, List.take_zero, List.drop_succ_cons, List.drop_zero, putAll, Nat.zero_add, Nat.reduceAdd, v0, v1, v2, v3, v4, v5, v6, hq5, Act.put, List.setIfInBounds_toArray, List.set_cons_zero, List.set_cons_succ]
        clear h0 h1 h2 h3 h4 h5 hp v0 v1 v2 v3 v4 v5 v6 hall hn5 hq5
        have HR5 := Lib.hid (hra.pushS hr5 hg5 hv5)
        have HB5 := Lib.hid (show Below w.heap.size w w5 from hba.grown hg5 hba.size (fun b hb => HOV.out b hb))
        have HV5 := Lib.hid (show ∀ b, (Value.slice p5 n5 q5).ownBlock = some b → w.heap.size ≤ b from fun b hb => by
          rcases hv5 with h | h
          · exact HOV.out b (by rw [← h]; exact hb)
          · rw [h] at hb
            have := hba.size
            simp only [Option.some.injEq] at hb
            omega)
        have hc5 : Cells g 54 (refV vS (.slice none 0 0) (.slice none 0 0) false 0 0 0) w5 := (hg5.block g hra.cells.lt (fun e => hra.safe.notCells hra.cells (by decide) e.symm)).trans hra.cells
        have c50 : w5.cell? ⟨g, 0, none⟩ = some vS := hc5.at 0
        have f50 := hc5.frozen 0
        clear hr5 hg5 hv5 hc5 hra hba HSL HPD HFA HBL HAB HMB HAP HST HOV
        have hge := HGE.out
        clear HGE
        subst hge
        go_wp2_with fail
        refine ⟨⟨k + 1, .slice p5 n5 q5, by omega, by go_num, ?_, HV5.out, Below.setCell HB5.out (Nat.le_refl _) _⟩, by simp [intOf]; omega⟩
        rw [HZE.out, ← HNX.out]
        exact HR5.out
      · obtain rfl : k = N := by omega
        have hnw : ¬ (k : Int) < n := by have := HGEM.out; omega
        have hge := HGE.out
        clear HGE
        subst hge
        go_wp2_with fail
        go_ret
        refine ⟨⟨w.heap.size, rfl, vS, .slice none 0 0, .slice none 0 0, by rw [HNW.out]; exact ⟨HR.out.cells, HR.out.safe, HR.out.at', HR.out.data, HR.out.apart⟩, ?_⟩, HB.out⟩
        rintro b (hb | hb | hb | hb)
        · omega
        · exact HOV.out b hb
        · cases hb
        · cases hb
end Go.Proofs.Ytmkelboncapkpaa
