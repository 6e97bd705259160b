/-
  Joined: The document's Text of layer 15.; The document's num, LinkText, Link, Word of layer 16.; The document's Wide, Digest.; The developers' reach, ends, Leaf, Sign, Meet.; The document's Secret.
-/
import Derived.Test.YtpfhlhcnmeodbaaGreatDoorJ04
import Derived.Test.YtpfhlhcnmeodbaaGreatDoorJ05
import Derived.Test.YtpfhlhcnmeodbaaGreatDoorJ06
import Derived.Test.YtpfhlhcnmeodbaaGreatDoorJ08
namespace Go.Proofs.YtpfhlhcnmeodbaaGreatDoor
open Go.RowKit Go.BigFrame
theorem OwnS.lit (w : World) (B : Nat) (L : List (List UInt8)) (n c : Nat) (hB : B ≤ w.heap.size) (hn : n = L.length) (hc : c = L.length) (h : L.length ≤ 1000) : OwnS B (.slice (some ⟨w.heap.size, 0, none⟩) n c) L (w.alloc (.cells (strs L).toArray 9)) := by
  subst hn hc
  have h1 := World.ownsRow_lit (base := B) (e := 9) (size := 1) w (strs L).toArray L.length hB (by unfold maxLen; omega) (by rw [List.size_toArray, strs_length, Nat.mul_one])
  exact h1
theorem op_slice_whole {P : Program} {o : Oper} {a : Act} {w : World} {K : Act → World → Prop} {Q : Exit → Act → World → Prop} (t : TypeId) (x : Operand) (ho : o.op = .slice t x none none none) (vx r : Value) (hx : a.eval x = vx)
    (hr : ∀ w, (Instr.sliceAt t vx none none none).run P w = .ok r w) (h : K (a.put o.dst r) w) : OpWp P o a w K Q := by
  refine ⟨?_⟩
  unfold Oper.wp execOp
  simp only [ho, hx, Option.map_none, Sem.run_bind, Sem.run_pure, hr, Result.andThen_ok]
  exact h
theorem slice_id (g o : Nat) (w : World) : (Instr.sliceAt 43 (.pointer (some ⟨g, o, none⟩)) none none none).run Tryz.prog w = .ok (.slice (some ⟨g, o, none⟩) 32 32) w := by kernel_rfl
theorem field_ent2 (g : Nat) (w : World) : (Instr.fieldAt 54 (.pointer (some ⟨g, 0, none⟩)) 2).run Tryz.prog w = .ok (.pointer (some ⟨g, 36, none⟩)) w := by kernel_rfl
theorem field_ent3 (g : Nat) (w : World) : (Instr.fieldAt 54 (.pointer (some ⟨g, 0, none⟩)) 3).run Tryz.prog w = .ok (.pointer (some ⟨g, 37, none⟩)) w := by kernel_rfl
theorem field_ent4 (g : Nat) (w : World) : (Instr.fieldAt 54 (.pointer (some ⟨g, 0, none⟩)) 4).run Tryz.prog w = .ok (.pointer (some ⟨g, 38, none⟩)) w := by kernel_rfl
theorem field_ent5 (g : Nat) (w : World) : (Instr.fieldAt 54 (.pointer (some ⟨g, 0, none⟩)) 5).run Tryz.prog w = .ok (.pointer (some ⟨g, 70, none⟩)) w := by kernel_rfl
theorem field_ent6 (g : Nat) (w : World) : (Instr.fieldAt 54 (.pointer (some ⟨g, 0, none⟩)) 6).run Tryz.prog w = .ok (.pointer (some ⟨g, 71, none⟩)) w := by kernel_rfl
set_option maxHeartbeats 4000000 in
set_option maxRecDepth 100000 in
theorem ref_text15 (e : EntN) (he : e.Len) (hq : e.seq < 9223372036854775808) (w : World) :
    Calls Tryz.prog 96 #[.agg (entV e)] w fun r w' => r = .returned (.string ⟨(entB e).toArray⟩) ∧ Below w.heap.size w w' := by
  have hx : Cells w.heap.size 54 (entV e) (w.alloc (.cells (entV e) 54)) := heap_alloc_new w _
  have hb : Below w.heap.size w (w.alloc (.cells (entV e) 54)) := (Below.refl _ _).alloc (Nat.le_refl _) _
  have HX := Lib.hid hx
  have HB := Lib.hid hb
  have HE := Lib.hid he
  have HGD := Lib.hid (fun w' => ref_good15 e he w')
  have HSE := Lib.hid (sizeEV he.ok)
  have HLE := Lib.hid (fun h : GoodE e => partsE_le h ⟨he.ok, hq⟩)
  have HQ := Lib.hid hq
  clear hx hb he hq
  obtain ⟨g, hg⟩ : ∃ b, decide (GoodE e) = b := ⟨_, rfl⟩
  have HG := Shut.mk hg
  rw [hg] at HGD
  clear hg
  go_enter Tryz.func96, Tryz.ntmps96
  go_upto_region 1 with (fail)
  obtain ⟨w1, hw1⟩ : ∃ x, x = w.alloc (.cells (entV e) 54) := ⟨_, rfl⟩
  rw [← hw1] at HX HB ⊢
  clear hw1
  have HBL := Lib.hid HX.out.lt
  have HSD := Lib.hid (show (Tryz.prog.info? 52).map (·.size) = some (draftL e.d).length by rw [draftL_len HE.out.ok.ref.1]; exact Tryz.sizeD)
  go_wp2_with (refine wpList_load_cells rfl 54 _ rfl w.heap.size (entV e) 54 _ rfl HX.out Tryz.underlying54 rfl HSE.out ?_)
  refine (HGD.out w1).mono ?_
  rintro r w2 ⟨rfl, hb⟩
  have HB2 := Lib.hid hb
  clear hb HGD
  cases g with
  | false =>
    have HZ := Shut.mk (entB_bad (of_decide_eq_false HG.out))
    go_wp2_with fail
    go_ret
    exact ⟨by rw [HZ.out]; rfl, HB.out.trans (HB2.out.mono HB.out.size)⟩
  | true =>
  have hgood := of_decide_eq_true HG.out
  have HZ := Shut.mk (entB_good hgood)
  have HGO := Lib.hid hgood
  have HLN := Lib.hid (HLE.out hgood)
  clear HLE HG
  obtain ⟨kk, hk, hk3⟩ : ∃ kk : Nat, e.kind = kk ∧ (kk = 1 ∨ kk = 2 ∨ kk = 3) := by
    rcases hgood with h | h | h
    · exact ⟨1, h.1, .inl rfl⟩
    · exact ⟨2, h.1, .inr (.inl rfl)⟩
    · exact ⟨3, h.1, .inr (.inr rfl)⟩
  have HK := Shut.mk hk
  have c0 := (ent_cells HE.out.ok (HX.out.below HB2.out)).1
  rw [hk] at c0
  have hkl : kk < 9223372036854775808 := by omega
  clear hk hgood
  have HK3 := Lib.hid hk3
  clear hk3
  go_wp2_with fail
  refine (rnumref_any kk w2 hkl).mono ?_
  rintro r w3 ⟨rfl, hb⟩
  have HB3 := Lib.hid (HB2.out.trans (hb.mono HB2.out.size))
  clear hb c0 HB2 hkl
  obtain ⟨N1, hN1⟩ : ∃ x, numB kk = x := ⟨_, rfl⟩
  have HN1 := Shut.mk hN1
  rw [hN1]
  clear hN1
  go_upto_region 4 with (fail)
  have HO := Lib.hid (OwnS.lit w3 w1.heap.size [N1] 1 1 HB3.out.size rfl rfl (by simp))
  obtain ⟨w4, hw4⟩ : ∃ x, x = w3.alloc (.cells #[.string ⟨N1.toArray⟩] 9) := ⟨_, rfl⟩
  have HB4 := Lib.hid (show Below w1.heap.size w1 w4 by rw [hw4]; exact HB3.out.alloc HB3.out.size _)
  rw [show (strs [N1]).toArray = #[.string ⟨N1.toArray⟩] from rfl, ← hw4] at HO
  rw [← hw4]
  clear hw4
  have HX4 := Lib.hid (HX.out.below HB4.out)
  obtain ⟨c0, cd, cf, cq, cp, cm, cy, cs⟩ := ent_cells HE.out.ok HX4.out
  have HCD := Lib.hid cd
  have HCP := Lib.hid cp
  rw [HK.out] at c0
  clear cd cp HB3
  rcases HK3.out with rfl | rfl | rfl
  · have hgood := HGO.out
    have hk1 : e.kind = 1 := HK.out
    have hd : GoodD e.d := by
      rcases hgood with h | h | h
      · exact h.2.1
      · have := h.1; omega
      · have := h.1; omega
    have HP := Shut.mk (show partsE e = [N1, draftB e.d] by rw [partsE, if_pos hk1, ← HN1.out])
    have HDT := Lib.hid (fun w' => ref_draftText e.d (hd.fit HE.out.ok.ref) w')
    have c0 : w4.cell? ⟨w.heap.size, 0, none⟩ = some (.int .i64 1) := c0
    rw [HP.out] at HZ HLN
    obtain ⟨DB, hDB⟩ : ∃ x, draftB e.d = x := ⟨_, rfl⟩
    rw [hDB] at HDT HZ HLN
    clear hk1 hd hDB HP hgood cf cq cm cy cs HCP
    go_wp2_with (refine wpList_load_mid rfl 52 _ rfl w.heap.size 1 rfl _ _ HCD.out Tryz.underlying52 rfl HSD.out ?_)
    refine (HDT.out w4).mono ?_
    rintro r w5 ⟨rfl, hb⟩
    have HO5 := Lib.hid (HO.out.below hb)
    have HB5 := Lib.hid (HB4.out.trans (hb.mono HB4.out.size))
    clear hb c0 HCD HX4 HB4 HO HDT
    have HS := Lib.hid (strs_lit w5 [DB] 9)
    go_wp2_with (refine wpList_push_strs rfl _ _ rfl w1.heap.size _ [N1] [DB] (some ⟨w5.heap.size, 0, none⟩) 1 1 rfl rfl (HO5.out.below ((Below.refl _ w5).alloc (Nat.le_refl _) _)) rfl HS.out (fun h => by cases h) (by simp) (Nat.le_trans HB5.out.size (by rw [World.size_alloc]; exact Nat.le_succ _)) ?_)
    intro v6 w6 ho hb _
    obtain ⟨ao6, c6, rfl⟩ := ho.out.form
    have HS6 := Lib.hid (strsAt_own ho.out)
    have HB6 := Lib.hid (HB5.out.trans (((Below.refl _ w5).alloc HB5.out.size _).trans hb.out))
    clear ho hb HS HO5 HB5
    have c0 : w6.cell? ⟨w.heap.size, 0, none⟩ = some (.int .i64 1) := by
      have h := (ent_cells HE.out.ok (HX.out.below HB6.out)).1
      rw [HK.out] at h
      exact h
    go_wp2_with fail
    refine (rlistref_any ao6 c6 [N1, DB] w6 HS6.out (by simp) (by have := HLN.out; omega)).mono ?_
    rintro r w7 ⟨rfl, hb⟩
    have HB7 := Lib.hid (HB6.out.trans (hb.mono HB6.out.size))
    clear hb
    go_wp2_with fail
    go_ret
    exact ⟨by rw [HZ.out]; rfl, HB.out.trans (HB7.out.mono HB.out.size)⟩
  · have hgood := HGO.out
    have hk1 : e.kind = 2 := HK.out
    obtain ⟨a, b, m, hf, hq, hm, hal, hbl, hml⟩ : ∃ a b m : Nat, e.src = a ∧ e.seq = b ∧ e.mask = m ∧ a < 9223372036854775808 ∧ b < 9223372036854775808 ∧ m < 9223372036854775808 := by
      rcases hgood with h | h | h
      · have := h.1; omega
      · obtain ⟨_, ⟨h1, h2, _⟩, _, h4, h5, h6, _⟩ := h
        have := HQ.out
        exact ⟨e.src.toNat, e.seq.toNat, e.mask.toNat, by omega, by omega, by omega, by omega, by omega, by omega⟩
      · have := h.1; omega
    have HP := Shut.mk (show partsE e = [N1, numB a, numB b, txt e.prev, numB m, e.pay, e.sig] by
      rw [partsE, if_neg (by omega), if_pos hk1, ← HN1.out, hf, hq, hm]
      rfl)
    have c0 : w4.cell? ⟨w.heap.size, 0, none⟩ = some (.int .i64 2) := c0
    rw [HP.out] at HZ HLN
    rw [hf] at cf
    rw [hq] at cq
    have HC6 := Lib.hid (fun (w' : World) (q : Below w4.heap.size w4 w') => (q.cell (p := ⟨w.heap.size, 36, none⟩) (Nat.lt_of_lt_of_le HBL.out HB4.out.size)).trans cf)
    have HC7 := Lib.hid (fun (w' : World) (q : Below w4.heap.size w4 w') => (q.cell (p := ⟨w.heap.size, 37, none⟩) (Nat.lt_of_lt_of_le HBL.out HB4.out.size)).trans cq)
    have HC8 := Lib.hid (fun (w' : World) (q : Below w4.heap.size w4 w') => conv_mid (P := Tryz.prog) (src := 97) (dst := 9) (c := 32) Tryz.underlying97 Tryz.underlying5 Tryz.underlying9 HE.out.ok.prev.1.symm HE.out.ok.prev.2 (rangeAt_belowI HCP.out q (Nat.lt_of_lt_of_le HBL.out HB4.out.size)))
    have HNA := Lib.hid (fun w' => rnumref_any a w' hal)
    have HNB := Lib.hid (fun w' => rnumref_any b w' hbl)
    obtain ⟨PV, hPV⟩ : ∃ x, txt e.prev = x := ⟨_, rfl⟩
    rw [hPV] at HC8 HZ HLN
    have HM := Shut.mk hm
    clear hk1 HP hgood cf cq cm cy cs HCD hf hq hm hPV hal hbl
    go_upto_region 7 with (fail)
    refine wp_region_free 11 (fun q V w' => Vals q V [(0, .slice (some ⟨w3.heap.size, 0, none⟩) 1 1), (1, .pointer (some ⟨w.heap.size, 36, none⟩)), (2, .int .i64 (a : Int)), (3, .string ⟨(numB a).toArray⟩), (4, .pointer (some ⟨w.heap.size, 37, none⟩)), (5, .int .i64 (b : Int)), (6, .string ⟨(numB b).toArray⟩), (7, .pointer (some ⟨w.heap.size, 38, none⟩)), (8, .slice (some ⟨w.heap.size, 38, none⟩) 32 32), (9, .string ⟨PV.toArray⟩)] ∧ NewS q V 10 3 ([numB a, numB b, PV]) w' ∧ Below w4.heap.size w4 w') (fun _ => undef) (by kernel_rfl) (by kernel_rfl) (by kernel_rfl) (by simp only [List.take_succ_cons, List.take_zero, putAll, Act.put, List.setIfInBounds_toArray, List.set_cons_zero, List.set_cons_succ]) ⟨Vals.none, NewS.none, (Below.refl _ _).drew⟩ ?_ ?_
    · simp only [List.take_succ_cons, List.take_zero, putAll, Nat.zero_add, Nat.reduceAdd, Act.put, List.setIfInBounds_toArray, List.set_cons_zero, List.set_cons_succ]
      refine FreeSteps.cons ?_ (FreeSteps.cons ?_ (FreeSteps.cons ?_ (FreeSteps.cons ?_ (FreeSteps.cons ?_ (FreeSteps.cons ?_ (FreeSteps.cons ?_ (FreeSteps.cons ?_ (FreeSteps.cons ?_ (FreeSteps.cons ?_ (FreeSteps.cons ?_ (FreeSteps.nil)))))))))))
      all_goals (refine FreeStep.fresh rfl ?_; rintro q V wq hr hu ⟨hVs, h10, hb⟩ K hK)
      · exact op_move (.tmp 3) rfl _ rfl (hK _ _ ⟨hVs.set rfl, h10.ne (by decide) (Below.refl _ _), hb⟩)
      · exact op_fieldAt 54 (.tmp 1) 2 rfl _ _ rfl (field_ent2 w.heap.size) (hK _ _ ⟨hVs.set rfl, h10.ne (by decide) (Below.refl _ _), hb⟩)
      · exact op_load_cell 3 (.tmp 24) rfl _ _ (hVs.get 1 (hr { on := 1, ground := .data } (by simp) rfl) rfl) (HC6.out wq hb) Tryz.isAgg3 (hK _ _ ⟨hVs.set rfl, h10.ne (by decide) (Below.refl _ _), hb⟩)
      · refine op_call Tryz.func71 rfl rfl rfl [.int .i64 (a : Int)] ((congrArg (fun x => [x]) (hVs.get 2 (hr { on := 2, ground := .data } (by simp) rfl) rfl))) (HNA.out wq) ?_
        rintro e w' ⟨rfl, hb'⟩
        exact ⟨_, rfl, (hK _ _ ⟨hVs.set rfl, h10.ne (by decide) hb', hb.trans (hb'.mono hb.size)⟩)⟩
      · exact op_fieldAt 54 (.tmp 1) 3 rfl _ _ rfl (field_ent3 w.heap.size) (hK _ _ ⟨hVs.set rfl, h10.ne (by decide) (Below.refl _ _), hb⟩)
      · exact op_load_cell 3 (.tmp 27) rfl _ _ (hVs.get 4 (hr { on := 4, ground := .data } (by simp) rfl) rfl) (HC7.out wq hb) Tryz.isAgg3 (hK _ _ ⟨hVs.set rfl, h10.ne (by decide) (Below.refl _ _), hb⟩)
      · refine op_call Tryz.func71 rfl rfl rfl [.int .i64 (b : Int)] ((congrArg (fun x => [x]) (hVs.get 5 (hr { on := 5, ground := .data } (by simp) rfl) rfl))) (HNB.out wq) ?_
        rintro e w' ⟨rfl, hb'⟩
        exact ⟨_, rfl, (hK _ _ ⟨hVs.set rfl, h10.ne (by decide) hb', hb.trans (hb'.mono hb.size)⟩)⟩
      · exact op_fieldAt 54 (.tmp 1) 4 rfl _ _ rfl (field_ent4 w.heap.size) (hK _ _ ⟨hVs.set rfl, h10.ne (by decide) (Below.refl _ _), hb⟩)
      · exact op_slice_whole 43 (.tmp 30) rfl _ _ (hVs.get 7 (hr { on := 7, ground := .data } (by simp) rfl) rfl) (slice_id w.heap.size 38) (hK _ _ ⟨hVs.set rfl, h10.ne (by decide) (Below.refl _ _), hb⟩)
      · exact op_conv 97 9 (.tmp 31) rfl _ _ (hVs.get 8 (hr { on := 8, ground := .data } (by simp) rfl) rfl) (HC8.out wq hb) (hK _ _ ⟨hVs.set rfl, h10.ne (by decide) (Below.refl _ _), hb⟩)
      · exact op_build_strs 115 9 3 #[(0, .tmp 26), (1, .tmp 29), (2, .tmp 32)] rfl [(0, .string ⟨(numB a).toArray⟩), (1, .string ⟨(numB b).toArray⟩), (2, .string ⟨PV.toArray⟩)] _ (by
            have v3 := (hVs.get 3 (hr { on := 3, ground := .data } (by simp) rfl) rfl)
            have v6 := (hVs.get 6 (hr { on := 6, ground := .data } (by simp) rfl) rfl)
            have v9 := (hVs.get 9 (hr { on := 9, ground := .data } (by simp) rfl) rfl)
            rw [List.map_toArray]
            show [((0 : Nat), V 3), (1, V 6), (2, V 9)].toArray = _
            rw [v3, v6, v9]) (built_strs3 _ _ _) (hK _ _ ⟨hVs.off rfl, .same, hb.alloc hb.size _⟩)
    rintro q V wq hall ⟨hVs, h10, hb⟩
    have v0 := hVs.get 0 (hall 0 (by decide)) rfl
    have v1 := hVs.get 1 (hall 1 (by decide)) rfl
    have v2 := hVs.get 2 (hall 2 (by decide)) rfl
    have v3 := hVs.get 3 (hall 3 (by decide)) rfl
    have v4 := hVs.get 4 (hall 4 (by decide)) rfl
    have v5 := hVs.get 5 (hall 5 (by decide)) rfl
    have v6 := hVs.get 6 (hall 6 (by decide)) rfl
    have v7 := hVs.get 7 (hall 7 (by decide)) rfl
    have v8 := hVs.get 8 (hall 8 (by decide)) rfl
    have v9 := hVs.get 9 (hall 9 (by decide)) rfl
    obtain ⟨g10, v10, hs10⟩ := h10 (hall 10 (by decide))
    simp only [List.take_succ_cons, List.take_zero, List.drop_succ_cons, List.drop_zero, putAll, Nat.zero_add, Nat.reduceAdd, v0, v1, v2, v3, v4, v5, v6, v7, v8, v9, v10, Act.put, List.setIfInBounds_toArray, List.set_cons_zero, List.set_cons_succ]
    clear hVs v0 v1 v2 v3 v4 v5 v6 v7 v8 v9 v10 hall
    obtain ⟨w5, hw5⟩ : ∃ x, x = wq := ⟨_, rfl⟩
    rw [← hw5] at hb hs10 ⊢
    clear hw5
    have HOn := Lib.hid (HO.out.below hb)
    have HB5 := Lib.hid (HB4.out.trans (hb.mono HB4.out.size))
    have HS := Lib.hid hs10
    clear hb hs10 HO HB4
    obtain ⟨NA, hNA⟩ : ∃ x, numB a = x := ⟨_, rfl⟩
    obtain ⟨NB, hNB⟩ : ∃ x, numB b = x := ⟨_, rfl⟩
    rw [hNA, hNB] at HS HZ HLN
    clear hNA hNB HC6 HC7 HC8 HNA HNB c0 HX4 HCP
    refine wpList_push_strs rfl _ _ rfl w1.heap.size _ [N1] [NA, NB, PV] (some ⟨g10, 0, none⟩) 3 3 rfl rfl HOn.out rfl HS.out (fun h => by cases h) (by simp) HB5.out.size ?_
    intro v6 w6 ho hb _
    obtain ⟨ao6, c6, rfl⟩ := ho.out.form
    have HO6 := Lib.hid ho.out
    have HB6 := Lib.hid (HB5.out.trans hb.out)
    clear ho hb HS HOn HB5
    have c0 : w6.cell? ⟨w.heap.size, 0, none⟩ = some (.int .i64 2) := by
      have h := (ent_cells HE.out.ok (HX.out.below HB6.out)).1
      rw [HK.out] at h
      exact h
    have hm := HM.out
    obtain ⟨_, _, _, _, _, cm, cy, cs⟩ := ent_cells HE.out.ok (HX.out.below HB6.out)
    rw [hm] at cm
    have HCM := Lib.hid (fun (w' : World) (q : Below w6.heap.size w6 w') => (q.cell (p := ⟨w.heap.size, 70, none⟩) (Nat.lt_of_lt_of_le HBL.out HB6.out.size)).trans cm)
    have HCY := Lib.hid (fun (w' : World) (q : Below w6.heap.size w6 w') => (q.cell (p := ⟨w.heap.size, 71, none⟩) (Nat.lt_of_lt_of_le HBL.out HB6.out.size)).trans cy)
    have HNM := Lib.hid (fun w' => rnumref_any m w' hml)
    clear cm cy cs hm
    go_upto_region 9 with (fail)
    refine wp_region_free 7 (fun q V w' => Vals q V [(0, .slice ao6 4 c6), (1, .pointer (some ⟨w.heap.size, 70, none⟩)), (2, .int .i64 (m : Int)), (3, .string ⟨(numB m).toArray⟩), (4, .pointer (some ⟨w.heap.size, 71, none⟩)), (5, .string ⟨e.pay.toArray⟩)] ∧ NewS q V 6 2 ([numB m, e.pay]) w' ∧ Below w6.heap.size w6 w') (fun _ => undef) (by kernel_rfl) (by kernel_rfl) (by kernel_rfl) (by simp only [List.take_succ_cons, List.take_zero, putAll, Act.put, List.setIfInBounds_toArray, List.set_cons_zero, List.set_cons_succ]) ⟨Vals.none, NewS.none, (Below.refl _ _).drew⟩ ?_ ?_
    · simp only [List.take_succ_cons, List.take_zero, putAll, Nat.zero_add, Nat.reduceAdd, Act.put, List.setIfInBounds_toArray, List.set_cons_zero, List.set_cons_succ]
      refine FreeSteps.cons ?_ (FreeSteps.cons ?_ (FreeSteps.cons ?_ (FreeSteps.cons ?_ (FreeSteps.cons ?_ (FreeSteps.cons ?_ (FreeSteps.cons ?_ (FreeSteps.nil)))))))
      all_goals (refine FreeStep.fresh rfl ?_; rintro q V wq hr hu ⟨hVs, h6, hb⟩ K hK)
      · exact op_move (.tmp 3) rfl _ rfl (hK _ _ ⟨hVs.set rfl, h6.ne (by decide) (Below.refl _ _), hb⟩)
      · exact op_fieldAt 54 (.tmp 1) 5 rfl _ _ rfl (field_ent5 w.heap.size) (hK _ _ ⟨hVs.set rfl, h6.ne (by decide) (Below.refl _ _), hb⟩)
      · exact op_load_cell 3 (.tmp 39) rfl _ _ (hVs.get 1 (hr { on := 1, ground := .data } (by simp) rfl) rfl) (HCM.out wq hb) Tryz.isAgg3 (hK _ _ ⟨hVs.set rfl, h6.ne (by decide) (Below.refl _ _), hb⟩)
      · refine op_call Tryz.func71 rfl rfl rfl [.int .i64 (m : Int)] ((congrArg (fun x => [x]) (hVs.get 2 (hr { on := 2, ground := .data } (by simp) rfl) rfl))) (HNM.out wq) ?_
        rintro e w' ⟨rfl, hb'⟩
        exact ⟨_, rfl, (hK _ _ ⟨hVs.set rfl, h6.ne (by decide) hb', hb.trans (hb'.mono hb.size)⟩)⟩
      · exact op_fieldAt 54 (.tmp 1) 6 rfl _ _ rfl (field_ent6 w.heap.size) (hK _ _ ⟨hVs.set rfl, h6.ne (by decide) (Below.refl _ _), hb⟩)
      · exact op_load_cell 9 (.tmp 42) rfl _ _ (hVs.get 4 (hr { on := 4, ground := .data } (by simp) rfl) rfl) (HCY.out wq hb) Tryz.isAgg9 (hK _ _ ⟨hVs.set rfl, h6.ne (by decide) (Below.refl _ _), hb⟩)
      · exact op_build_strs 115 9 2 #[(0, .tmp 41), (1, .tmp 43)] rfl [(0, .string ⟨(numB m).toArray⟩), (1, .string ⟨e.pay.toArray⟩)] _ (by
            have v3 := (hVs.get 3 (hr { on := 3, ground := .data } (by simp) rfl) rfl)
            have v5 := (hVs.get 5 (hr { on := 5, ground := .data } (by simp) rfl) rfl)
            rw [List.map_toArray]
            show [((0 : Nat), V 3), (1, V 5)].toArray = _
            rw [v3, v5]) (built_strs2 _ _) (hK _ _ ⟨hVs.off rfl, .same, hb.alloc hb.size _⟩)
    rintro q V wq hall ⟨hVs, h6, hb⟩
    have v0 := hVs.get 0 (hall 0 (by decide)) rfl
    have v1 := hVs.get 1 (hall 1 (by decide)) rfl
    have v2 := hVs.get 2 (hall 2 (by decide)) rfl
    have v3 := hVs.get 3 (hall 3 (by decide)) rfl
    have v4 := hVs.get 4 (hall 4 (by decide)) rfl
    have v5 := hVs.get 5 (hall 5 (by decide)) rfl
    obtain ⟨g6, v6, hs6⟩ := h6 (hall 6 (by decide))
    simp only [List.take_succ_cons, List.take_zero, List.drop_succ_cons, List.drop_zero, putAll, Nat.zero_add, Nat.reduceAdd, v0, v1, v2, v3, v4, v5, v6, Act.put, List.setIfInBounds_toArray, List.set_cons_zero, List.set_cons_succ]
    clear hVs v0 v1 v2 v3 v4 v5 v6 hall
    obtain ⟨w7, hw7⟩ : ∃ x, x = wq := ⟨_, rfl⟩
    rw [← hw7] at hb hs6 ⊢
    clear hw7
    have HOn := Lib.hid (HO6.out.below hb)
    have HB7 := Lib.hid (HB6.out.trans (hb.mono HB6.out.size))
    have HS := Lib.hid hs6
    clear hb hs6 HO6 HB6
    obtain ⟨NM, hNM⟩ : ∃ x, numB m = x := ⟨_, rfl⟩
    rw [hNM] at HS HZ HLN
    clear hNM
    refine wpList_push_strs rfl _ _ rfl w1.heap.size _ [N1, NA, NB, PV] [NM, e.pay] (some ⟨g6, 0, none⟩) 2 2 rfl rfl HOn.out rfl HS.out (fun h => by cases h) (by simp) HB7.out.size ?_
    intro v8 w8 ho hb _
    obtain ⟨ao8, c8, rfl⟩ := ho.out.form
    have HO8 := Lib.hid ho.out
    have HB8 := Lib.hid (HB7.out.trans hb.out)
    clear ho hb HS HOn HB7
    have c0 : w8.cell? ⟨w.heap.size, 0, none⟩ = some (.int .i64 2) := by
      have h := (ent_cells HE.out.ok (HX.out.below HB8.out)).1
      rw [HK.out] at h
      exact h
    have cs := (ent_cells HE.out.ok (HX.out.below HB8.out)).2.2.2.2.2.2.2
    have HS := Lib.hid (strs_lit w8 [e.sig] 9)
    go_wp2_with (refine wpList_push_strs rfl _ _ rfl w1.heap.size _ [N1, NA, NB, PV, NM, e.pay] [e.sig] (some ⟨w8.heap.size, 0, none⟩) 1 1 rfl rfl (HO8.out.below ((Below.refl _ w8).alloc (Nat.le_refl _) _)) rfl HS.out (fun h => by cases h) (by simp) (Nat.le_trans HB8.out.size (by rw [World.size_alloc]; exact Nat.le_succ _)) ?_)
    intro v9 w9 ho hb _
    obtain ⟨ao9, c9, rfl⟩ := ho.out.form
    have HS9 := Lib.hid (strsAt_own ho.out)
    have HB9 := Lib.hid (HB8.out.trans (((Below.refl _ w8).alloc HB8.out.size _).trans hb.out))
    clear ho hb HS HO8 HB8 cs c0
    go_wp2_with fail
    refine (rlistref_any ao9 c9 [N1, NA, NB, PV, NM, e.pay, e.sig] w9 HS9.out (by simp) (by have := HLN.out; omega)).mono ?_
    rintro r wa ⟨rfl, hb⟩
    have HBa := Lib.hid (HB9.out.trans (hb.mono HB9.out.size))
    clear hb
    go_wp2_with fail
    go_ret
    exact ⟨by rw [HZ.out]; rfl, HB.out.trans (HBa.out.mono HB.out.size)⟩
  · have hgood := HGO.out
    have hk1 : e.kind = 3 := HK.out
    obtain ⟨m, hm, hml⟩ : ∃ m : Nat, e.mask = m ∧ m < 9223372036854775808 := by
      rcases hgood with h | h | h
      · have := h.1; omega
      · have := h.1; omega
      · obtain ⟨_, ⟨h1, h2, _⟩, _⟩ := h
        exact ⟨e.mask.toNat, by omega, by omega⟩
    have HP := Shut.mk (show partsE e = [N1, numB m, e.pay] by
      rw [partsE, if_neg (by omega), if_neg (by omega), ← HN1.out, hm]
      rfl)
    have c0 : w4.cell? ⟨w.heap.size, 0, none⟩ = some (.int .i64 3) := c0
    rw [HP.out] at HZ HLN
    clear hk1 HP hgood cf cq cm cy cs HCD HCP HX4
    obtain ⟨_, _, _, _, _, cm, cy, cs⟩ := ent_cells HE.out.ok (HX.out.below HB4.out)
    rw [hm] at cm
    have HCM := Lib.hid (fun (w' : World) (q : Below w4.heap.size w4 w') => (q.cell (p := ⟨w.heap.size, 70, none⟩) (Nat.lt_of_lt_of_le HBL.out HB4.out.size)).trans cm)
    have HCY := Lib.hid (fun (w' : World) (q : Below w4.heap.size w4 w') => (q.cell (p := ⟨w.heap.size, 71, none⟩) (Nat.lt_of_lt_of_le HBL.out HB4.out.size)).trans cy)
    have HNM := Lib.hid (fun w' => rnumref_any m w' hml)
    clear cm cy cs hm
    go_upto_region 9 with (fail)
    refine wp_region_free 7 (fun q V w' => Vals q V [(0, .slice (some ⟨w3.heap.size, 0, none⟩) 1 1), (1, .pointer (some ⟨w.heap.size, 70, none⟩)), (2, .int .i64 (m : Int)), (3, .string ⟨(numB m).toArray⟩), (4, .pointer (some ⟨w.heap.size, 71, none⟩)), (5, .string ⟨e.pay.toArray⟩)] ∧ NewS q V 6 2 ([numB m, e.pay]) w' ∧ Below w4.heap.size w4 w') (fun _ => undef) (by kernel_rfl) (by kernel_rfl) (by kernel_rfl) (by simp only [List.take_succ_cons, List.take_zero, putAll, Act.put, List.setIfInBounds_toArray, List.set_cons_zero, List.set_cons_succ]) ⟨Vals.none, NewS.none, (Below.refl _ _).drew⟩ ?_ ?_
    · simp only [List.take_succ_cons, List.take_zero, putAll, Nat.zero_add, Nat.reduceAdd, Act.put, List.setIfInBounds_toArray, List.set_cons_zero, List.set_cons_succ]
      refine FreeSteps.cons ?_ (FreeSteps.cons ?_ (FreeSteps.cons ?_ (FreeSteps.cons ?_ (FreeSteps.cons ?_ (FreeSteps.cons ?_ (FreeSteps.cons ?_ (FreeSteps.nil)))))))
      all_goals (refine FreeStep.fresh rfl ?_; rintro q V wq hr hu ⟨hVs, h6, hb⟩ K hK)
      · exact op_move (.tmp 3) rfl _ rfl (hK _ _ ⟨hVs.set rfl, h6.ne (by decide) (Below.refl _ _), hb⟩)
      · exact op_fieldAt 54 (.tmp 1) 5 rfl _ _ rfl (field_ent5 w.heap.size) (hK _ _ ⟨hVs.set rfl, h6.ne (by decide) (Below.refl _ _), hb⟩)
      · exact op_load_cell 3 (.tmp 39) rfl _ _ (hVs.get 1 (hr { on := 1, ground := .data } (by simp) rfl) rfl) (HCM.out wq hb) Tryz.isAgg3 (hK _ _ ⟨hVs.set rfl, h6.ne (by decide) (Below.refl _ _), hb⟩)
      · refine op_call Tryz.func71 rfl rfl rfl [.int .i64 (m : Int)] ((congrArg (fun x => [x]) (hVs.get 2 (hr { on := 2, ground := .data } (by simp) rfl) rfl))) (HNM.out wq) ?_
        rintro e w' ⟨rfl, hb'⟩
        exact ⟨_, rfl, (hK _ _ ⟨hVs.set rfl, h6.ne (by decide) hb', hb.trans (hb'.mono hb.size)⟩)⟩
      · exact op_fieldAt 54 (.tmp 1) 6 rfl _ _ rfl (field_ent6 w.heap.size) (hK _ _ ⟨hVs.set rfl, h6.ne (by decide) (Below.refl _ _), hb⟩)
      · exact op_load_cell 9 (.tmp 42) rfl _ _ (hVs.get 4 (hr { on := 4, ground := .data } (by simp) rfl) rfl) (HCY.out wq hb) Tryz.isAgg9 (hK _ _ ⟨hVs.set rfl, h6.ne (by decide) (Below.refl _ _), hb⟩)
      · exact op_build_strs 115 9 2 #[(0, .tmp 41), (1, .tmp 43)] rfl [(0, .string ⟨(numB m).toArray⟩), (1, .string ⟨e.pay.toArray⟩)] _ (by
            have v3 := (hVs.get 3 (hr { on := 3, ground := .data } (by simp) rfl) rfl)
            have v5 := (hVs.get 5 (hr { on := 5, ground := .data } (by simp) rfl) rfl)
            rw [List.map_toArray]
            show [((0 : Nat), V 3), (1, V 5)].toArray = _
            rw [v3, v5]) (built_strs2 _ _) (hK _ _ ⟨hVs.off rfl, .same, hb.alloc hb.size _⟩)
    rintro q V wq hall ⟨hVs, h6, hb⟩
    have v0 := hVs.get 0 (hall 0 (by decide)) rfl
    have v1 := hVs.get 1 (hall 1 (by decide)) rfl
    have v2 := hVs.get 2 (hall 2 (by decide)) rfl
    have v3 := hVs.get 3 (hall 3 (by decide)) rfl
    have v4 := hVs.get 4 (hall 4 (by decide)) rfl
    have v5 := hVs.get 5 (hall 5 (by decide)) rfl
    obtain ⟨g6, v6, hs6⟩ := h6 (hall 6 (by decide))
    simp only [List.take_succ_cons, List.take_zero, List.drop_succ_cons, List.drop_zero, putAll, Nat.zero_add, Nat.reduceAdd, v0, v1, v2, v3, v4, v5, v6, Act.put, List.setIfInBounds_toArray, List.set_cons_zero, List.set_cons_succ]
    clear hVs v0 v1 v2 v3 v4 v5 v6 hall
    obtain ⟨w5, hw5⟩ : ∃ x, x = wq := ⟨_, rfl⟩
    rw [← hw5] at hb hs6 ⊢
    clear hw5
    have HOn := Lib.hid (HO.out.below hb)
    have HB5 := Lib.hid (HB4.out.trans (hb.mono HB4.out.size))
    have HS := Lib.hid hs6
    clear hb hs6 HO HB4
    obtain ⟨NM, hNM⟩ : ∃ x, numB m = x := ⟨_, rfl⟩
    rw [hNM] at HS HZ HLN
    clear hNM
    refine wpList_push_strs rfl _ _ rfl w1.heap.size _ [N1] [NM, e.pay] (some ⟨g6, 0, none⟩) 2 2 rfl rfl HOn.out rfl HS.out (fun h => by cases h) (by simp) HB5.out.size ?_
    intro v6 w6 ho hb _
    obtain ⟨ao6, c6, rfl⟩ := ho.out.form
    have HO6 := Lib.hid ho.out
    have HB6 := Lib.hid (HB5.out.trans hb.out)
    clear ho hb HS HOn HB5
    have c0 : w6.cell? ⟨w.heap.size, 0, none⟩ = some (.int .i64 3) := by
      have h := (ent_cells HE.out.ok (HX.out.below HB6.out)).1
      rw [HK.out] at h
      exact h
    have HS6 := Lib.hid (strsAt_own HO6.out)
    go_wp2_with fail
    refine (rlistref_any ao6 c6 [N1, NM, e.pay] w6 HS6.out (by simp) (by have := HLN.out; omega)).mono ?_
    rintro r wa ⟨rfl, hb⟩
    have HBa := Lib.hid (HB6.out.trans (hb.mono HB6.out.size))
    clear hb
    go_wp2_with fail
    go_ret
    exact ⟨by rw [HZ.out]; rfl, HB.out.trans (HBa.out.mono HB.out.size)⟩
end Go.Proofs.YtpfhlhcnmeodbaaGreatDoor
namespace Go.Proofs.YtpfhlhcnmeodbaaGreatDoor
open Go.RowKit Go.BigFrame
theorem ref_num16 (n : Int) (w : World) (h2 : n ≤ 9223372036854775807) :
    Calls Tryz.prog 78 #[.int .i64 n] w fun e w' => e = .returned (.string ⟨(numB n.toNat).toArray⟩) ∧ Below w.heap.size w w' := by
  by_cases h0 : n < 0
  · have HN := Lib.hid (rnumref_any 0 w (by decide))
    have HE := Shut.mk (show n.toNat = 0 by omega)
    go_enter Tryz.func78, Tryz.ntmps78
    go_wp2_with fail
    refine HN.out.mono ?_
    rintro e w1 ⟨rfl, hb⟩
    have HB := Lib.hid hb
    clear hb
    go_wp2_with fail
    go_ret
    exact ⟨by rw [HE.out]; rfl, HB.out⟩
  · obtain ⟨m, rfl⟩ := Int.eq_ofNat_of_zero_le (show 0 ≤ n by omega)
    have HN := Lib.hid (rnumref_any m w (by omega))
    have hnl : ¬ (m : Int) < 0 := h0
    go_enter Tryz.func78, Tryz.ntmps78
    go_wp2_with fail
    refine HN.out.mono ?_
    rintro e w1 ⟨rfl, hb⟩
    have HB := Lib.hid hb
    clear hb
    go_wp2_with fail
    go_ret
    exact ⟨by rw [Int.toNat_natCast]; rfl, HB.out⟩
set_option maxHeartbeats 4000000 in
set_option maxRecDepth 100000 in
theorem ref_linkText (p : List Nat) (i : Int) (e : EntN) (hp : IdOk p) (hi : i ≤ 9223372036854775807) (he : e.Len) (hq : e.seq < 9223372036854775808) (w : World) :
    Calls Tryz.prog 73 #[.agg (nums .u8 p).toArray, .int .i64 i, .agg (entV e)] w fun r w' => r = .returned (.string ⟨(linkT p i e).toArray⟩) ∧ Below w.heap.size w w' := by
  have hx1 : Cells w.heap.size 43 (nums .u8 p).toArray (w.alloc (.cells (nums .u8 p).toArray 43)) := heap_alloc_new w _
  have hx2 : Cells (w.heap.size + 1) 54 (entV e) ((w.alloc (.cells (nums .u8 p).toArray 43)).alloc (.cells (entV e) 54)) := by
    have h := heap_alloc_new (w.alloc (.cells (nums .u8 p).toArray 43)) (.cells (entV e) 54)
    rw [World.size_alloc] at h
    exact h
  have hb : Below w.heap.size w ((w.alloc (.cells (nums .u8 p).toArray 43)).alloc (.cells (entV e) 54)) := ((Below.refl _ _).alloc (Nat.le_refl _) _).alloc (by rw [World.size_alloc]; exact Nat.le_succ _) _
  have HX1 := Lib.hid (hx1.alloc (.cells (entV e) 54))
  have HX2 := Lib.hid hx2
  have HB := Lib.hid hb
  have HE := Lib.hid he
  have HP := Lib.hid hp
  have HLEN := Lib.hid (linkT_len hp hi (e := e) ⟨he.ok, hq⟩)
  have HN := Lib.hid (fun w' => ref_num16 i w' hi)
  have HT := Lib.hid (fun w' => ref_text15 e he hq w')
  have HSE := Lib.hid (sizeEV he.ok)
  clear hx1 hx2 hb he hq hp
  go_enter Tryz.func73, Tryz.ntmps73
  go_upto_region 1 with (fail)
  obtain ⟨w1, hw1⟩ : ∃ x, x = (w.alloc (.cells (nums .u8 p).toArray 43)).alloc (.cells (entV e) 54) := ⟨_, rfl⟩
  rw [← hw1] at HX1 HX2 HB ⊢
  clear hw1
  have HC3 := Lib.hid (fun (w' : World) (q : Below w1.heap.size w1 w') => conv_mid (P := Tryz.prog) (src := 97) (dst := 9) (c := 32) Tryz.underlying97 Tryz.underlying5 Tryz.underlying9 HP.out.1.symm HP.out.2 (rangeAt_belowI (cells_range HX1.out) q HX1.out.lt))
  have HC4 := Lib.hid (fun (w' : World) (q : Below w1.heap.size w1 w') => HX2.out.below q)
  refine wp_region_class_tail (fun w' => Below w1.heap.size w1 w') 6 (by kernel_rfl) (by kernel_rfl) (Below.refl _ _).drew ?_
  simp only [List.take_succ_cons, List.take_zero, List.drop_succ_cons, List.drop_zero]
  repeat (first
    | (go_big_quiet_want; refine quiet_conv 97 9 _ rfl (.slice (some ⟨w.heap.size, 0, none⟩) 32 32) _ rfl HC3.out ?_; go_big_quiet_on; simp only [Act.put, List.setIfInBounds_toArray, List.set_cons_zero, List.set_cons_succ])
    | (go_big_quiet_want; refine quiet_load_cells 54 _ rfl (w.heap.size + 1) (entV e) 54 _ rfl HC4.out Tryz.underlying54 rfl HSE.out ?_; go_big_quiet_on; simp only [Act.put, List.setIfInBounds_toArray, List.set_cons_zero, List.set_cons_succ])
    | go_big_quiet_step ((intro hs'; first
        | (go_at_call 78; exact (HN.out _).mono fun e w' h => ⟨h.1, hs'.trans (h.2.mono hs'.size)⟩)
        | (go_at_call 96; exact (HT.out _).mono fun e w' h => ⟨h.1, hs'.trans (h.2.mono hs'.size)⟩)
        | rfl)))
  refine wpQuiet_nil ?_
  intro w2 hs2
  have HB2 := Lib.hid (HB.out.trans (hs2.mono HB.out.size))
  clear hs2 HX1 HX2 HB HC3 HC4 HN HT
  go_wp2_with fail
  refine (rlistref_any (some ⟨w2.heap.size, 0, none⟩) 4 [[108, 105, 110, 107], txt p, numB i.toNat, entB e] _ (at_four9 w2 _ _ _ _) (by simp) (by have := HLEN.out; rw [linkT] at this; omega)).mono ?_
  rintro e w3 ⟨rfl, hb⟩
  have HB3 := Lib.hid (HB2.out.trans (((Below.refl _ w2).alloc (Nat.le_refl _) _).trans (hb.mono (by simp)) |>.mono HB2.out.size))
  clear hb HB2
  go_wp2_with fail
  go_ret
  exact ⟨rfl, HB3.out⟩
set_option maxHeartbeats 4000000 in
set_option maxRecDepth 100000 in
theorem ref_link (p : List Nat) (i : Int) (e : EntN) (hp : IdOk p) (hi : i ≤ 9223372036854775807) (he : e.Len) (hq : e.seq < 9223372036854775808) (w : World) :
    Calls Tryz.prog 43 #[.agg (nums .u8 p).toArray, .int .i64 i, .agg (entV e)] w fun r w' => r = .returned (.agg (nums .u8 (linkN p i e)).toArray) ∧ Below w.heap.size w w' := by
  have hx1 : Cells w.heap.size 43 (nums .u8 p).toArray (((w.alloc (.cells (nums .u8 p).toArray 43)).alloc (.cells (entV e) 54)).alloc (.cells (nums .u8 zeroI).toArray 43)) := (Cells.alloc (heap_alloc_new w _) _).alloc _
  have hx2 : Cells (w.heap.size + 1) 54 (entV e) (((w.alloc (.cells (nums .u8 p).toArray 43)).alloc (.cells (entV e) 54)).alloc (.cells (nums .u8 zeroI).toArray 43)) := by
    have h := heap_alloc_new (w.alloc (.cells (nums .u8 p).toArray 43)) (.cells (entV e) 54)
    rw [World.size_alloc] at h
    exact Cells.alloc h _
  have hx3 : Cells (w.heap.size + 2) 43 (nums .u8 zeroI).toArray (((w.alloc (.cells (nums .u8 p).toArray 43)).alloc (.cells (entV e) 54)).alloc (.cells (nums .u8 zeroI).toArray 43)) := by
    have h := heap_alloc_new ((w.alloc (.cells (nums .u8 p).toArray 43)).alloc (.cells (entV e) 54)) (.cells (nums .u8 zeroI).toArray 43)
    rw [World.size_alloc, World.size_alloc] at h
    exact h
  have hb : Below w.heap.size w (((w.alloc (.cells (nums .u8 p).toArray 43)).alloc (.cells (entV e) 54)).alloc (.cells (nums .u8 zeroI).toArray 43)) := (((Below.refl _ _).alloc (Nat.le_refl _) _).alloc (by rw [World.size_alloc]; exact Nat.le_succ _) _).alloc (by rw [World.size_alloc, World.size_alloc]; omega) _
  have HX1 := Lib.hid hx1
  have HX2 := Lib.hid hx2
  have HX3 := Lib.hid hx3
  have HB := Lib.hid hb
  have HLEN := Lib.hid (linkT_len hp hi (e := e) ⟨he.ok, hq⟩)
  have HT := Lib.hid (fun w' => ref_linkText p i e hp hi he hq w')
  have HSE := Lib.hid (sizeEV he.ok)
  have HSP := Lib.hid (show (Tryz.prog.info? 43).map (·.size) = some p.length by rw [hp.1]; exact Tryz.sizeI)
  clear hx1 hx2 hx3 hb he hq hp
  go_enter Tryz.func43, Tryz.ntmps43
  go_upto_region 1 with (fail)
  change Code.wp _ _ _ _ (((w.alloc (.cells (nums .u8 p).toArray 43)).alloc (.cells (entV e) 54)).alloc (.cells (nums .u8 zeroI).toArray 43))
  obtain ⟨w1, hw1⟩ : ∃ x, x = (((w.alloc (.cells (nums .u8 p).toArray 43)).alloc (.cells (entV e) 54)).alloc (.cells (nums .u8 zeroI).toArray 43)) := ⟨_, rfl⟩
  rw [← hw1] at HX1 HX2 HX3 HB ⊢
  clear hw1
  go_wp2_with (first
    | (refine wpList_load_nums rfl 43 _ rfl w.heap.size .u8 p 43 _ rfl HX1.out Tryz.underlying43 rfl HSP.out ?_)
    | (refine wpList_load_cells rfl 54 _ rfl (w.heap.size + 1) (entV e) 54 _ rfl HX2.out Tryz.underlying54 rfl HSE.out ?_))
  refine (HT.out w1).mono ?_
  rintro r w2 ⟨rfl, hb⟩
  have HX3b := Lib.hid (HX3.out.below hb)
  have HB2 := Lib.hid (HB.out.trans (hb.mono HB.out.size))
  clear hb HX1 HX2 HX3 HB HT
  go_wp2_with fail
  refine (of_any _ w2 (by have := HLEN.out; omega)).mono ?_
  rintro r w3 ⟨rfl, hb⟩
  have HX3c := Lib.hid (HX3b.out.below hb)
  have HB3 := Lib.hid (HB2.out.trans (hb.mono HB2.out.size))
  clear hb HX3b HB2
  have hU0 := (linkN_ok p i e).1
  rw [linkN] at hU0
  obtain ⟨U, hU⟩ : ∃ U, shaN (linkT p i e) = U := ⟨_, rfl⟩
  have HUE := Shut.mk hU
  rw [hU] at hU0 ⊢
  have HI := Lib.hid (show (Tryz.prog.info? 43).map (·.size) = some U.length by rw [hU0]; exact Tryz.sizeI)
  have HL2 := Lib.hid (show zeroI.length = U.length by rw [hU0]; rfl)
  clear hU hU0
  go_wp2_with (refine wpList_store_nums rfl 43 _ _ rfl rfl (w.heap.size + 2) .u8 _ U 43 rfl rfl HX3c.out HI.out HL2.out ?_)
  intro w7 hc' hb'
  have HC7 := Lib.hid (show Blk (w.heap.size + 2) 43 .u8 U w7 from hc'.out)
  have HB7 := Lib.hid (show Below w.heap.size w w7 from But.toBelow HB3.out hb'.out (by omega) HB3.out.size)
  clear hc' hb'
  go_wp2_with fail
  exact bodyPost_ret (results_nums rfl _ _ (w.heap.size + 2) .u8 _ 43 _ rfl HC7.out Tryz.underlying43 rfl HI.out) rfl ⟨by rw [linkN, HUE.out], HB7.out⟩
set_option maxHeartbeats 4000000 in
set_option maxRecDepth 100000 in
theorem ref_word (n i : Int) (h : List Nat) (hn : n ≤ 9223372036854775807) (hi : i ≤ 9223372036854775807) (hh : IdOk h) (w : World) :
    Calls Tryz.prog 45 #[.int .i64 n, .int .i64 i, .agg (nums .u8 h).toArray] w fun r w' => r = .returned (.string ⟨(wordB n i h).toArray⟩) ∧ Below w.heap.size w w' := by
  have hx1 : Cells w.heap.size 43 (nums .u8 h).toArray (w.alloc (.cells (nums .u8 h).toArray 43)) := heap_alloc_new w _
  have HX1 := Lib.hid hx1
  have HB := Lib.hid (show Below w.heap.size w (w.alloc (.cells (nums .u8 h).toArray 43)) from (Below.refl _ _).alloc (Nat.le_refl _) _)
  have HH := Lib.hid hh
  have HLEN := Lib.hid (wordB_len hn hi hh)
  have HN := Lib.hid (fun w' => ref_num16 n w' hn)
  have HI := Lib.hid (fun w' => ref_num16 i w' hi)
  clear hx1 hh
  go_enter Tryz.func45, Tryz.ntmps45
  go_upto_region 1 with (fail)
  obtain ⟨w1, hw1⟩ : ∃ x, x = w.alloc (.cells (nums .u8 h).toArray 43) := ⟨_, rfl⟩
  rw [← hw1] at HX1 HB ⊢
  clear hw1
  have HC3 := Lib.hid (fun (w' : World) (q : Below w1.heap.size w1 w') => conv_mid (P := Tryz.prog) (src := 97) (dst := 9) (c := 32) Tryz.underlying97 Tryz.underlying5 Tryz.underlying9 HH.out.1.symm HH.out.2 (rangeAt_belowI (cells_range HX1.out) q HX1.out.lt))
  refine wp_region_class_tail (fun w' => Below w1.heap.size w1 w') 6 (by kernel_rfl) (by kernel_rfl) (Below.refl _ _).drew ?_
  simp only [List.take_succ_cons, List.take_zero, List.drop_succ_cons, List.drop_zero]
  repeat (first
    | (go_big_quiet_want; refine quiet_conv 97 9 _ rfl (.slice (some ⟨w.heap.size, 0, none⟩) 32 32) _ rfl HC3.out ?_; go_big_quiet_on; simp only [Act.put, List.setIfInBounds_toArray, List.set_cons_zero, List.set_cons_succ])
    | go_big_quiet_step ((intro hs'; first
        | (go_at_call_of 78 (Value.int .i64 n); exact (HN.out _).mono fun e w' h => ⟨h.1, hs'.trans (h.2.mono hs'.size)⟩)
        | (go_at_call_of 78 (Value.int .i64 i); exact (HI.out _).mono fun e w' h => ⟨h.1, hs'.trans (h.2.mono hs'.size)⟩)
        | rfl)))
  refine wpQuiet_nil ?_
  intro w2 hs2
  have HB2 := Lib.hid (HB.out.trans (hs2.mono HB.out.size))
  clear hs2 HX1 HB HC3 HN HI
  go_wp2_with fail
  refine (rlistref_any (some ⟨w2.heap.size, 0, none⟩) 4 [[119, 111, 114, 100], numB n.toNat, numB i.toNat, txt h] _ (at_four9 w2 _ _ _ _) (by simp) (by have := HLEN.out; rw [wordB] at this; omega)).mono ?_
  rintro e w3 ⟨rfl, hb⟩
  have HB3 := Lib.hid (HB2.out.trans (((Below.refl _ w2).alloc (Nat.le_refl _) _).trans (hb.mono (by simp)) |>.mono HB2.out.size))
  clear hb HB2
  go_wp2_with fail
  go_ret
  exact ⟨rfl, HB3.out⟩
end Go.Proofs.YtpfhlhcnmeodbaaGreatDoor
namespace Go.Proofs.YtpfhlhcnmeodbaaGreatDoor
open Go.RowKit Go.BigFrame
set_option maxHeartbeats 1000000 in
theorem ref_wide (h : Int) (w : World) :
    Calls Tryz.prog 40 #[.int .i64 h] w fun e w' => e = .returned (.int .i64 ((wideN h : Nat) : Int)) ∧ w' = w := by
  have HWB := Shut.mk (fun hb : h < 1 ∨ 8 < h => wideN_zero hb)
  have HWO := Shut.mk (fun (n : Nat) (h1 : 1 ≤ n) (h8 : n ≤ 8) => wideN_ok h1 h8)
  obtain ⟨W, hW⟩ : ∃ W, wideN h = W := ⟨_, rfl⟩
  have HW := Shut.mk hW
  rw [hW]
  clear hW
  go_enter Tryz.func40, Tryz.ntmps40
  by_cases hb : h < 1
  · go_wp2_with fail
    go_ret
    exact ⟨by rw [← HW.out, HWB.out (.inl hb)]; rfl, rfl⟩
  · by_cases hb2 : 8 < h
    · go_wp2_with fail
      go_ret
      exact ⟨by rw [← HW.out, HWB.out (.inr hb2)]; rfl, rfl⟩
    · obtain ⟨n, rfl⟩ : ∃ n : Nat, h = n := ⟨h.toNat, by omega⟩
      have hn1 : 1 ≤ n := by omega
      have hn8 : n ≤ 8 := by omega
      go_wp2_with fail
      go_loop [3, 4] (fun m i => ∃ k q : Nat, k ≤ n ∧ i = .int .i64 k ∧ m = .int .i64 q ∧ Hid (q = 2 ^ k)) (fun _ i => n - (intOf i).toNat)
      case atStart => exact ⟨0, 1, by omega, rfl, rfl, Lib.hid rfl⟩
      case round =>
        obtain ⟨k, q, hk, rfl, rfl, hq⟩ := hrel
        have hq2 : q ≤ 256 := by rw [hq.out]; exact Nat.le_trans (Nat.pow_le_pow_right (by decide) (show k ≤ 8 by omega)) (by decide)
        by_cases hlk : k < n
        · have hlk2 : (k : Int) < (n : Int) := by omega
          go_wp2_with fail
          exact ⟨⟨k + 1, 2 * q, by omega, by go_num, by go_num, Lib.hid (by rw [hq.out, Nat.pow_succ, Nat.mul_comm])⟩, by simp [intOf]; omega⟩
        · obtain rfl : k = n := by omega
          have hnw : ¬ (k : Int) < (k : Int) := by omega
          go_wp2_with fail
          go_ret
          exact ⟨by rw [← HW.out, HWO.out k hn1 hn8, hq.out]; rfl, rfl⟩
set_option maxHeartbeats 4000000 in
set_option maxRecDepth 100000 in
theorem ref_digest6 (r : List Nat) (i : Int) (t : List UInt8) (w : World) (hr : r.length = 16) (lr : ∀ y ∈ r, y < 256) (hi : i ≤ 9223372036854775807) (ht : t.length ≤ 1000000) :
    Calls Tryz.prog 75 #[.agg (nums .u8 r).toArray, .int .i64 i, .string ⟨t.toArray⟩] w fun e w' => e = .returned (.agg (nums .u8 (digK r i t)).toArray) ∧ Below w.heap.size w w' := by
  have HS0 := digK_small hr hi ht
  have HR := Lib.hid hr
  have LR := Lib.hid lr
  clear hr lr
  go_enter Tryz.func75, Tryz.ntmps75
  go_upto_region 1 with (fail)
  change Code.wp _ _ _ _ ((w.alloc (.cells (nums .u8 r).toArray 29)).alloc (.cells (nums .u8 (List.replicate 16 0)).toArray 29))
  obtain ⟨w1, hw1⟩ : ∃ x', x' = (w.alloc (.cells (nums .u8 r).toArray 29)).alloc (.cells (nums .u8 (List.replicate 16 0)).toArray 29) := ⟨_, rfl⟩
  rw [← hw1]
  have h3 : Blk w.heap.size 29 .u8 r w1 ∧ Blk (w.heap.size + 1) 29 .u8 (List.replicate 16 0) w1 ∧ Below w.heap.size w w1 := by rw [hw1]; exact two_new w _ _ _ _
  obtain ⟨hr1, hz1, hb1⟩ := h3
  obtain ⟨gz, hgz⟩ : ∃ g, g = w.heap.size + 1 := ⟨_, rfl⟩
  obtain ⟨gr, hgr⟩ : ∃ g, g = w.heap.size := ⟨_, rfl⟩
  have HGZ := Lib.hid (show w.heap.size ≤ gz by omega)
  rw [← hgz] at hz1 ⊢
  rw [← hgr] at hr1 ⊢
  have HR1 := Lib.hid hr1
  have HZ1 := Lib.hid hz1
  have HB1 := Lib.hid hb1
  clear hr1 hz1 hb1 hw1 hgz hgr
  obtain ⟨nx, hnx⟩ : ∃ n : Nat, max i 0 = n := ⟨i.toNat, by omega⟩
  have hxn : i.toNat = nx := by omega
  have hxn2 : nx < 9223372036854775808 := by omega
  rw [hxn] at HS0
  have HS := Lib.hid HS0
  have HU := Shut.mk (show (shaN (listB [[116, 101, 120, 116], txt r, numB nx, t])).take 16 = digK r i t by rw [← hxn]; rfl)
  clear hxn HS0
  refine wp_region_class_tail (fun w' => Below w1.heap.size w1 w') 6 (by kernel_rfl) (by kernel_rfl) (Below.refl _ _).drew ?_
  simp only [List.take_succ_cons, List.take_zero, List.drop_succ_cons, List.drop_zero]
  repeat (first
    | (go_big_quiet_want; refine quiet_conv_nums 97 9 5 _ rfl gr 16 r 29 (by rw [HR.out]; rfl) LR.out (fun w' h => HR1.out.below h) Tryz.underlying97 Tryz.underlying5 Tryz.underlying9 ?_; go_big_quiet_on; simp only [Act.put, List.setIfInBounds_toArray, List.set_cons_zero, List.set_cons_succ])
    | go_big_quiet_step ((intro hs'; first
        | rfl
        | (go_at_call_of 71 (Value.int .i64 (nx : Int)); exact (rnumref_any nx _ hxn2).mono fun e w' h => ⟨h.1, hs'.trans (h.2.mono hs'.size)⟩))))
  refine wpQuiet_nil ?_
  intro w2 hs2
  have HZ2 := Lib.hid (HZ1.out.below hs2)
  have HB2 := Lib.hid (HB1.out.trans (hs2.mono HB1.out.size))
  clear hs2 HR1 HZ1 HB1
  go_wp2_with fail
  refine (ref_sum [116, 101, 120, 116] (some ⟨w2.heap.size, 0, none⟩) 3 [txt r, numB nx, t] _ (at_three w2 _ _ _) (fun h => by cases h) (by simp) HS.out).mono ?_
  rintro e w5 ⟨rfl, hb5⟩
  have hb : Below w2.heap.size w2 w5 := ((Below.refl _ w2).alloc (Nat.le_refl _) _).trans (hb5.mono (by simp))
  have HZ5 := Lib.hid (HZ2.out.below hb)
  have HB5 := Lib.hid (HB2.out.trans (hb.mono HB2.out.size))
  clear hb hb5 HZ2 HB2
  go_wp2_with fail
  refine (ref_cut _ w5 (shaN_len _)).mono ?_
  rintro e w6 ⟨rfl, hb6⟩
  have HZ6 := Lib.hid (HZ5.out.below hb6)
  have HB6 := Lib.hid (HB5.out.trans (hb6.mono HB5.out.size))
  clear hb6 HZ5 HB5
  rw [HU.out]
  have HUL0 := digK_len r i t
  clear HU
  obtain ⟨U, hU⟩ : ∃ U, digK r i t = U := ⟨_, rfl⟩
  rw [hU] at HUL0 ⊢
  have HUL := Lib.hid HUL0
  have HUE := Shut.mk hU
  clear hU HUL0
  have HI := Lib.hid (show (Tryz.prog.info? 29).map (·.size) = some U.length by rw [HUL.out]; exact Tryz.infoE)
  have HL2 := Lib.hid (show (List.replicate 16 0).length = U.length by rw [HUL.out]; rfl)
  go_wp2_with (refine wpList_store_nums rfl 29 _ _ rfl rfl gz .u8 _ U 29 rfl rfl HZ6.out HI.out HL2.out ?_)
  intro w7 hc' hb'
  have HC7 := Lib.hid (show Blk gz 29 .u8 U w7 from hc'.out)
  have HB7 := Lib.hid (show Below w.heap.size w w7 from But.toBelow HB6.out hb'.out HGZ.out HB6.out.size)
  clear hc' hb'
  go_wp2_with fail
  exact bodyPost_ret (results_nums rfl _ _ gz .u8 _ 29 _ rfl HC7.out Tryz.underlying29 rfl HI.out) rfl ⟨by rw [HUE.out], HB7.out⟩
end Go.Proofs.YtpfhlhcnmeodbaaGreatDoor
namespace Go.Proofs.YtpfhlhcnmeodbaaGreatDoor
open Go.RowKit Go.BigFrame
def rowN (f : Nat → List Nat) : Nat → List Nat
  | 0 => []
  | k + 1 => rowN f k ++ f k
theorem rowN_len {f : Nat → List Nat} (hf : ∀ j, (f j).length = 16) (k : Nat) : (rowN f k).length = 16 * k := by
  induction k with
  | zero => rfl
  | succ k ih => rw [rowN, List.length_append, ih, hf]; omega
theorem rowN_lt {f : Nat → List Nat} (hf : ∀ j, ∀ y ∈ f j, y < 256) (k : Nat) : ∀ y ∈ rowN f k, y < 256 := by
  induction k with
  | zero => intro y hy; cases hy
  | succ k ih =>
    intro y hy
    rw [rowN, List.mem_append] at hy
    exact hy.elim (ih y) (hf k y)
theorem txt_rowN (f : Nat → List Nat) (k : Nat) : txt (rowN f k) = rowE f k := by
  induction k with
  | zero => rfl
  | succ k ih => rw [rowN, rowE, txt_append, ih]
theorem Tryz.infoByte4 : (Tryz.prog.info? 5).map (fun i => (i.zero, i.size, i.bytes)) = some (some (.int .u8 0), 1, 1) := by kernel_rfl
def toF (seed : List UInt8) (i : Int) (ts : List Nat) (j : Nat) : List Nat := walkI (secN seed i j) (placeB i j) 0 (ts.getD j 0 : Nat)
theorem toF_len (seed : List UInt8) (i : Int) (ts : List Nat) (j : Nat) : (toF seed i ts j).length = 16 := walkI_len (secN_len _ _ _) _ _ _
theorem toF_lt (seed : List UInt8) (i : Int) (ts : List Nat) (j : Nat) : ∀ y ∈ toF seed i ts j, y < 256 := walkI_lt (secN_lt _ _ _) _ _ _
set_option maxHeartbeats 4000000 in
set_option maxRecDepth 100000 in
theorem dev_reach (seed : List UInt8) (i : Int) (ts : List Nat) (w : World) (hs : seed.length ≤ 4000) (hi0 : -9223372036854775808 ≤ i) (hi : i ≤ 9223372036854775807) (ht : ts.length = 35) (lt : ∀ d ∈ ts, d < 16) (hk : KAt w) :
    Calls Tryz.prog 62 #[.string ⟨seed.toArray⟩, .int .i64 i, .agg (nums .i64 ts).toArray] w fun e w' => e = .returned (.string ⟨(rowE (toF seed i ts) 35).toArray⟩) ∧ Below w.heap.size w w' := by
  obtain ⟨i0, hi2, hz0, hz1, hz2⟩ := info_parts Tryz.infoByte4
  have HS := Lib.hid hs
  have HK := Lib.hid hk
  have HT := Lib.hid ht
  have LT := Lib.hid lt
  have HI0 := Lib.hid hi0
  have HI1 := Lib.hid hi
  have HY := Lib.hid hi2
  have HY0 := Lib.hid hz0
  have HY1 := Lib.hid hz1
  have HY2 := Lib.hid hz2
  clear hs hk ht lt hi0 hi hi2 hz0 hz1 hz2
  go_enter Tryz.func62, Tryz.ntmps62
  go_upto_region 1 with (fail)
  obtain ⟨w1, hw1⟩ : ∃ x', x' = w.alloc (.cells (nums .i64 ts).toArray 107) := ⟨_, rfl⟩
  rw [← hw1]
  have hb1 : Below w.heap.size w w1 := by rw [hw1]; exact (Below.refl _ _).alloc (Nat.le_refl _) _
  have HT1 := Lib.hid (show Blk w.heap.size 107 .i64 ts w1 by rw [hw1]; exact heap_alloc_new w _)
  have HB1 := Lib.hid hb1
  have HK1 := Lib.hid (HK.out.below hb1)
  clear hb1 hw1 HK
  go_wp2_with (at_make; refine wpList_make_own _ rfl _ _ 97 rfl w1.heap.size 5 i0 (.int .u8 0) 1 Tryz.underlying97 HY.out HY0.out HY1.out .i64 .i64 560 560 rfl rfl rfl (by rw [HY2.out]; decide) (by unfold maxLen; omega) (Nat.le_refl _) ?_)
  intro w2 ho hgrow
  have hb2 : Below w1.heap.size w1 w2 := (Below.refl w1.heap.size w1).grown hgrow (Nat.le_refl _) (by intro g hg; cases hg)
  have HO := Lib.hid (show OwnN w1.heap.size 5 .u8 (.slice (some ⟨w1.heap.size, 0, none⟩) 0 560) [] w2 from ho)
  have HB2 := Lib.hid hb2
  have HT2 := Lib.hid (HT1.out.below hb2)
  have HIT := Lib.hid (show (Tryz.prog.info? 107).map (·.size) = some ts.length by rw [HT.out]; exact Tryz.infoDg)
  clear ho hgrow hb2
  go_wp2_with (refine wpList_load_nums rfl 107 _ rfl w.heap.size .i64 _ 107 _ rfl HT2.out Tryz.underlying107 rfl HIT.out ?_)
  go_loopw [7, 14] (fun v n wq => ∃ k : Nat, k ≤ 35 ∧ n = .int .i64 k ∧ OwnN w1.heap.size 5 .u8 v (rowN (toF seed i ts) k) wq ∧ Below w1.heap.size w1 wq) (fun _ n _ => 35 - (intOf n).toNat)
  case atStart => exact ⟨0, by omega, rfl, HO.out, HB2.out⟩
  case round =>
    clear HO HB2 HT2
    obtain ⟨k, hk, rfl, ho, hb⟩ := hrel
    obtain ⟨ao, cp, rfl⟩ := ho.form
    have HO := Lib.hid ho
    have HB := Lib.hid hb
    have HW := Lib.hid hb.size
    have HKr := Lib.hid (HK1.out.below hb)
    clear ho hb
    by_cases hlk : k < 35
    · have hix := fun w => run_index_nums (P := Tryz.prog) 107 3 35 .i64 ts k w Tryz.underlying107 HT.out Tryz.sizeOf3 Tryz.isAgg3 hlk
      have hx := getD_lt LT.out (by decide) k
      have HF := Lib.hid (show toF seed i ts k = walkI (secN seed i k) (placeB i k) 0 (ts.getD k 0 : Nat) from rfl)
      generalize ts.getD k 0 = y at hix hx HF
      go_upto_region 6 with (fail)
      obtain ⟨w3, hw3⟩ : ∃ x', x' = wr.alloc (.cells #[.int .i64 i, .int .i64 (k : Int)] 134) := ⟨_, rfl⟩
      rw [← hw3]
      have hb3 : Below wr.heap.size wr w3 := by rw [hw3]; exact (Below.refl _ _).alloc (Nat.le_refl _) _
      have HP3 := Lib.hid (show Cells wr.heap.size 134 #[.int .i64 i, .int .i64 (k : Int)] w3 by rw [hw3]; exact heap_alloc_new wr _)
      have HK3 := Lib.hid (HKr.out.below hb3)
      have HO3 := Lib.hid (HO.out.below hb3)
      have HB3 := Lib.hid (HB.out.trans (hb3.mono HB.out.size))
      clear hw3 hb3 HO HB HKr hix
      have HAL := Lib.hid (show ∀ w : World, (Instr.alloc 29 true (.tuple #[])).run Tryz.prog w = .ok (.pointer (some ⟨w.heap.size, 0, none⟩)) (w.alloc (.cells (nums .u8 (List.replicate 16 0)).toArray 29)) from fun w => by kernel_rfl)
      refine wp_region_free 7 (fun s V w' => SS w3 w' ∧ Val s V 0 (.string ⟨seed.toArray⟩) ∧ Val s V 1 (.agg #[.int .i64 i, .int .i64 (k : Int)]) ∧ Val s V 2 (.agg (nums .u8 (secN seed i k)).toArray) ∧ Val s V 3 (.agg #[.int .i64 i, .int .i64 (k : Int)]) ∧ Val s V 4 (.int .i64 (y : Int)) ∧ Val s V 5 (.agg (nums .u8 (toF seed i ts k)).toArray) ∧ New s V w3.heap.size 6 29 .u8 (List.replicate 16 0) w') (fun | 0 => u21 | 1 => u22 | 2 => u23 | 3 => u24 | 4 => u25 | 5 => u26 | _ => u11) (by kernel_rfl) (by kernel_rfl) (by kernel_rfl) rfl ⟨SS.start HK3.out, Val.none, Val.none, Val.none, Val.none, Val.none, Val.none, New.none⟩ ?_ ?_
      · simp only [List.take_succ_cons, List.take_zero, putAll, Nat.zero_add, Nat.reduceAdd, Act.put, List.setIfInBounds_toArray, List.set_cons_zero, List.set_cons_succ]
        refine FreeSteps.cons ?_ (FreeSteps.cons ?_ (FreeSteps.cons ?_ (FreeSteps.cons ?_ (FreeSteps.cons ?_ (FreeSteps.cons ?_ (FreeSteps.cons ?_ (FreeSteps.nil)))))))
        all_goals (refine FreeStep.plain rfl ?_; rintro s V wq hr ⟨hB, h0, h1, h2, h3, h4, h5, h6⟩ K hK)
        · exact op_move (.tmp 0) rfl (.string ⟨seed.toArray⟩) rfl (hK _ _ ⟨hB, .same, h1.ne (by decide), h2.ne (by decide), h3.ne (by decide), h4.ne (by decide), h5.ne (by decide), h6.ne (by decide) (Below.refl _ _)⟩)
        · exact op_load_cells 134 (.tmp 10) rfl wr.heap.size #[.int .i64 i, .int .i64 (k : Int)] 134 _ rfl (HP3.out.below hB.1) Tryz.underlying134 rfl Tryz.infoP (hK _ _ ⟨hB, h0.ne (by decide), .same, h2.ne (by decide), h3.ne (by decide), h4.ne (by decide), h5.ne (by decide), h6.ne (by decide) (Below.refl _ _)⟩)
        · have v0 := h0 (hr { on := 0, ground := .data } (by simp) rfl)
          have v1 := h1 (hr { on := 1, ground := .data } (by simp) rfl)
          refine op_call Tryz.func90 rfl rfl rfl [.string ⟨seed.toArray⟩, .agg #[.int .i64 i, .int .i64 (k : Int)]] (cons_eq v0 (cons_eq v1 rfl)) (dev_secret seed i k wq HS.out HI0.out HI1.out (by omega) (by omega) hB.2) ?_
          rintro e w' ⟨rfl, hb⟩
          exact ⟨_, rfl, hK _ _ ⟨hB.next hb, h0.ne (by decide), h1.ne (by decide), .same, h3.ne (by decide), h4.ne (by decide), h5.ne (by decide), h6.ne (by decide) hb⟩⟩
        · exact op_load_cells 134 (.tmp 10) rfl wr.heap.size #[.int .i64 i, .int .i64 (k : Int)] 134 _ rfl (HP3.out.below hB.1) Tryz.underlying134 rfl Tryz.infoP (hK _ _ ⟨hB, h0.ne (by decide), h1.ne (by decide), h2.ne (by decide), .same, h4.ne (by decide), h5.ne (by decide), h6.ne (by decide) (Below.refl _ _)⟩)
        · exact op_move (.tmp 9) rfl (.int .i64 (y : Int)) rfl (hK _ _ ⟨hB, h0.ne (by decide), h1.ne (by decide), h2.ne (by decide), h3.ne (by decide), .same, h5.ne (by decide), h6.ne (by decide) (Below.refl _ _)⟩)
        · have v2 := h2 (hr { on := 2, ground := .data } (by simp) rfl)
          have v3 := h3 (hr { on := 3, ground := .data } (by simp) rfl)
          have v4 := h4 (hr { on := 4, ground := .data } (by simp) rfl)
          refine op_call Tryz.func89 rfl rfl rfl [.agg (nums .u8 (secN seed i k)).toArray, .agg #[.int .i64 i, .int .i64 (k : Int)], .int .i64 0, .int .i64 (y : Int)] (cons_eq v2 (cons_eq v3 (cons_eq rfl (cons_eq v4 rfl)))) (by have h := dev_walk (secN seed i k) i k 0 y wq (secN_len _ _ _) (secN_lt _ _ _) HI0.out HI1.out (by omega) (by omega) (by omega) (by omega) (by omega) (by omega) hB.2; rw [← HF.out] at h; exact h) ?_
          rintro e w' ⟨rfl, hb⟩
          exact ⟨_, rfl, hK _ _ ⟨hB.next hb, h0.ne (by decide), h1.ne (by decide), h2.ne (by decide), h3.ne (by decide), h4.ne (by decide), .same, h6.ne (by decide) hb⟩⟩
        · have hb : Below wq.heap.size wq (wq.alloc (.cells (nums .u8 (List.replicate 16 0)).toArray 29)) := (Below.refl _ _).alloc (Nat.le_refl _) _
          exact op_alloc 29 rfl _ HAL.out (hK _ _ ⟨hB.next hb, h0.ne (by decide), h1.ne (by decide), h2.ne (by decide), h3.ne (by decide), h4.ne (by decide), h5.ne (by decide), .same hB.1.size⟩)
      · rintro s V w4 hall ⟨hB, h0, h1, h2, h3, h4, h5, h6⟩
        have v5 := h5 (hall 5 (by decide))
        obtain ⟨gx, v6, hgx, hx6⟩ := h6 (hall 6 (by decide))
        simp only [List.take_succ_cons, List.take_zero, List.drop_succ_cons, List.drop_zero, putAll, Nat.zero_add, Nat.reduceAdd, v5, v6, Act.put, List.setIfInBounds_toArray, List.set_cons_zero, List.set_cons_succ]
        clear h0 h1 h2 h3 h4 h5 h6 v5 v6 hall HAL
        have HK4 := Lib.hid hB.2
        have HO4 := Lib.hid (HO3.out.below hB.1)
        have HB4 := Lib.hid (HB3.out.trans (hB.1.mono HB3.out.size))
        have HX4 := Lib.hid hx6
        have HGX := Lib.hid (show w1.heap.size ≤ gx by have := HB3.out.size; omega)
        have HAP := Lib.hid (show ∀ g, (Value.slice ao (rowN (toF seed i ts) k).length cp).ownBlock = some g → gx ≠ g from fun g hg e => by have := (World.ownsRow.lt HO3.out g hg).2; omega)
        clear hB hgx hx6 HK3 HO3 HB3 HP3
        have HI := Lib.hid (show (Tryz.prog.info? 29).map (·.size) = some (toF seed i ts k).length by rw [toF_len]; exact Tryz.infoE)
        have HL2 := Lib.hid (show (List.replicate 16 0).length = (toF seed i ts k).length by rw [toF_len]; rfl)
        have HFL := Lib.hid (toF_len seed i ts k)
        have HRL := Lib.hid (rowN_len (toF_len seed i ts) k)
        have HRN := Lib.hid (show rowN (toF seed i ts) (k + 1) = rowN (toF seed i ts) k ++ toF seed i ts k from rfl)
        generalize toF seed i ts k = x at *
        generalize rowN (toF seed i ts) k = R at *
        go_wp2_with (refine wpList_store_nums rfl 29 _ _ rfl rfl gx .u8 _ x 29 rfl rfl HX4.out HI.out HL2.out ?_)
        intro w5 hc' hb'
        have HX5 := Lib.hid (show Blk gx 29 .u8 x w5 from hc'.out)
        have HB5 := Lib.hid (show Below w1.heap.size w1 w5 from But.toBelow HB4.out hb'.out HGX.out HB4.out.size)
        have HO5 := Lib.hid (HO4.out.but hb'.out HAP.out)
        have HLA := Lib.hid (show R.length + x.length ≤ maxLen by rw [HRL.out, HFL.out]; unfold maxLen; omega)
        have HLB := Lib.hid (show (R.length + x.length) * 1 ≤ 140737488355328 by rw [HRL.out, HFL.out]; omega)
        clear hc' hb' HX4 HB4 HO4 HK4 HI HL2
        go_wp2_with (refine wpList_append_nums rfl (.tmp 27) (.tmp 28) 97 5 rfl w1.heap.size .u8 1 Tryz.underlying97 Tryz.infoByte4 (.slice ao R.length cp) R x ⟨gx, 0, none⟩ 16 16 HFL.out.symm rfl HO5.out rfl (blk_news HX5.out) HLA.out HLB.out HB5.out.size ?_)
        intro v6 w6 ho6 hb6
        have HB6 := Lib.hid (show Below w1.heap.size w1 w6 from HB5.out.trans hb6.out)
        clear hb6
        go_wp2_with fail
        exact ⟨⟨k + 1, by omega, by go_num, by rw [HRN.out]; exact ho6.out, HB6.out⟩, by simp [intOf]; omega⟩
    · obtain rfl : k = 35 := by omega
      have hconv := conv_row (rowN (toF seed i ts) 35) rfl (by rw [rowN_len (toF_len seed i ts)]; decide) (rowN_lt (toF_lt seed i ts) 35) HO.out
      rw [txt_rowN] at hconv
      have HBr := Lib.hid (HB1.out.trans (HB.out.mono HB1.out.size))
      clear HO HB HKr
      go_wp2_with fail
      go_ret
      exact ⟨rfl, HBr.out⟩
end Go.Proofs.YtpfhlhcnmeodbaaGreatDoor
namespace Go.Proofs.YtpfhlhcnmeodbaaGreatDoor
open Go.RowKit Go.BigFrame
theorem rowN_len' {f : Nat → List Nat} {k : Nat} (hf : ∀ j, j < k → (f j).length = 16) : (rowN f k).length = 16 * k := by
  induction k with
  | zero => rfl
  | succ k ih => rw [rowN, List.length_append, ih (fun j hj => hf j (by omega)), hf k (by omega)]; omega
def fromF (sig : List UInt8) (i : Int) (fr : List Nat) (j : Nat) : List Nat := walkI (byteNs (part sig j)) (placeB i j) (fr.getD j 0 : Nat) 15
theorem partN_len {sig : List UInt8} (h : sig.length = 560) {j : Nat} (hj : j < 35) : (byteNs (part sig j)).length = 16 := by rw [byteNs_len, part_len (k := 35) (by omega) hj]
theorem fromF_len {sig : List UInt8} (h : sig.length = 560) (i : Int) (fr : List Nat) {j : Nat} (hj : j < 35) : (fromF sig i fr j).length = 16 := walkI_len (partN_len h hj) _ _ _
theorem fromF_lt (sig : List UInt8) (i : Int) (fr : List Nat) (j : Nat) : ∀ y ∈ fromF sig i fr j, y < 256 := walkI_lt (byteNs_part_lt _ _) _ _ _
set_option maxHeartbeats 4000000 in
set_option maxRecDepth 100000 in
theorem dev_ends (sig : List UInt8) (i : Int) (fr : List Nat) (w : World) (hs : sig.length = 560) (hi0 : -9223372036854775808 ≤ i) (hi : i ≤ 9223372036854775807) (ht : fr.length = 35) (lt : ∀ d ∈ fr, d < 16) (hk : KAt w) :
    Calls Tryz.prog 85 #[.string ⟨sig.toArray⟩, .int .i64 i, .agg (nums .i64 fr).toArray] w fun e w' => e = .returned (.string ⟨(rowE (fromF sig i fr) 35).toArray⟩) ∧ Below w.heap.size w w' := by
  obtain ⟨i0, hi2, hz0, hz1, hz2⟩ := info_parts Tryz.infoByte4
  have HS := Lib.hid hs
  have HK := Lib.hid hk
  have HT := Lib.hid ht
  have LT := Lib.hid lt
  have HI0 := Lib.hid hi0
  have HI1 := Lib.hid hi
  have HY := Lib.hid hi2
  have HY0 := Lib.hid hz0
  have HY1 := Lib.hid hz1
  have HY2 := Lib.hid hz2
  clear hs hk ht lt hi0 hi hi2 hz0 hz1 hz2
  go_enter Tryz.func85, Tryz.ntmps85
  go_upto_region 1 with (fail)
  obtain ⟨w1, hw1⟩ : ∃ x', x' = w.alloc (.cells (nums .i64 fr).toArray 107) := ⟨_, rfl⟩
  rw [← hw1]
  have hb1 : Below w.heap.size w w1 := by rw [hw1]; exact (Below.refl _ _).alloc (Nat.le_refl _) _
  have HT1 := Lib.hid (show Blk w.heap.size 107 .i64 fr w1 by rw [hw1]; exact heap_alloc_new w _)
  have HB1 := Lib.hid hb1
  have HK1 := Lib.hid (HK.out.below hb1)
  clear hb1 hw1 HK
  go_wp2_with (at_make; refine wpList_make_own _ rfl _ _ 97 rfl w1.heap.size 5 i0 (.int .u8 0) 1 Tryz.underlying97 HY.out HY0.out HY1.out .i64 .i64 560 560 rfl rfl rfl (by rw [HY2.out]; decide) (by unfold maxLen; omega) (Nat.le_refl _) ?_)
  intro w2 ho hgrow
  have hb2 : Below w1.heap.size w1 w2 := (Below.refl w1.heap.size w1).grown hgrow (Nat.le_refl _) (by intro g hg; cases hg)
  have HO := Lib.hid (show OwnN w1.heap.size 5 .u8 (.slice (some ⟨w1.heap.size, 0, none⟩) 0 560) [] w2 from ho)
  have HB2 := Lib.hid hb2
  have HT2 := Lib.hid (HT1.out.below hb2)
  have HIT := Lib.hid (show (Tryz.prog.info? 107).map (·.size) = some fr.length by rw [HT.out]; exact Tryz.infoDg)
  clear ho hgrow hb2
  go_wp2_with (refine wpList_load_nums rfl 107 _ rfl w.heap.size .i64 _ 107 _ rfl HT2.out Tryz.underlying107 rfl HIT.out ?_)
  go_loopw [7, 13] (fun v n wq => ∃ k : Nat, k ≤ 35 ∧ n = .int .i64 k ∧ OwnN w1.heap.size 5 .u8 v (rowN (fromF sig i fr) k) wq ∧ Below w1.heap.size w1 wq) (fun _ n _ => 35 - (intOf n).toNat)
  case atStart => exact ⟨0, by omega, rfl, HO.out, HB2.out⟩
  case round =>
    clear HO HB2 HT2
    obtain ⟨k, hk, rfl, ho, hb⟩ := hrel
    obtain ⟨ao, cp, rfl⟩ := ho.form
    have HO := Lib.hid ho
    have HB := Lib.hid hb
    have HW := Lib.hid hb.size
    have HKr := Lib.hid (HK1.out.below hb)
    clear ho hb
    by_cases hlk : k < 35
    · have hix := fun w => run_index_nums (P := Tryz.prog) 107 3 35 .i64 fr k w Tryz.underlying107 HT.out Tryz.sizeOf3 Tryz.isAgg3 hlk
      have hx := getD_lt LT.out (by decide) k
      have HF := Lib.hid (show fromF sig i fr k = walkI (byteNs (part sig k)) (placeB i k) (fr.getD k 0 : Nat) 15 from rfl)
      generalize fr.getD k 0 = y at hix hx HF
      go_upto_region 6 with (fail)
      obtain ⟨w3, hw3⟩ : ∃ x', x' = wr.alloc (.cells (nums .u8 (List.replicate 16 0)).toArray 29) := ⟨_, rfl⟩
      change Code.wp _ _ _ _ (wr.alloc (.cells (nums .u8 (List.replicate 16 0)).toArray 29))
      rw [← hw3]
      have hb3 : Below wr.heap.size wr w3 := by rw [hw3]; exact (Below.refl _ _).alloc (Nat.le_refl _) _
      have HX3 := Lib.hid (show Blk wr.heap.size 29 .u8 (List.replicate 16 0) w3 by rw [hw3]; exact heap_alloc_new wr _)
      have HK3 := Lib.hid (HKr.out.below hb3)
      have HO3 := Lib.hid (HO.out.below hb3)
      have HB3 := Lib.hid (HB.out.trans (hb3.mono HB.out.size))
      clear hw3 hb3 HB HKr hix
      have hcut : (⟨sig.toArray⟩ : ByteArray).extract (k * 16) 560 = ⟨(sig.drop (k * 16)).toArray⟩ := by rw [← HS.out]; exact extract_tail sig (k * 16)
      have hsl : (⟨sig.toArray⟩ : ByteArray).size = 560 := by simp [ByteArray.size, HS.out]
      refine wp_region_class_tail (fun w' => SS w3 w') 5 (by kernel_rfl) (by kernel_rfl) (SS.start HK3.out) ?_
      simp only [List.take_succ_cons, List.take_zero, List.drop_succ_cons, List.drop_zero]
      repeat go_big_quiet_step ((intro hs'; rfl))
      refine wpQuiet_nil ?_
      intro w4 hs4
      rw [hcut]
      have HX4 := Lib.hid (HX3.out.below hs4.1)
      have HK4 := Lib.hid hs4.2
      have HO4 := Lib.hid (HO3.out.below hs4.1)
      have HB4 := Lib.hid (HB3.out.trans (hs4.1.mono HB3.out.size))
      have HAP := Lib.hid (show ∀ g, (Value.slice ao (rowN (fromF sig i fr) k).length cp).ownBlock = some g → wr.heap.size ≠ g from fun g hg e => by
        have h1 := (World.ownsRow.lt HO.out g hg).2; omega)
      clear hs4 HX3 HK3 HO3 HB3 hcut hsl HO
      have HPT := Lib.hid (show byteNs ((sig.drop (k * 16)).take (List.replicate 16 0).length) ++ (List.replicate 16 0).drop (sig.drop (k * 16)).length = byteNs (part sig k) by
        have e1 : (List.replicate 16 0).drop (sig.drop (k * 16)).length = ([] : List Nat) := List.drop_of_length_le (by rw [List.length_replicate, List.length_drop, HS.out]; omega)
        rw [e1, List.append_nil, part, Nat.mul_comm 16 k]; rfl)
      have HPL := Lib.hid (partN_len HS.out hlk)
      have HPN := Lib.hid (byteNs_part_lt sig k)
      have HFL := Lib.hid (fromF_len HS.out i fr hlk)
      have HRL := Lib.hid (rowN_len' (k := k) (fun j hj => fromF_len HS.out i fr (j := j) (by omega)))
      have HRN := Lib.hid (show rowN (fromF sig i fr) (k + 1) = rowN (fromF sig i fr) k ++ fromF sig i fr k from rfl)
      generalize fromF sig i fr k = x at *
      generalize rowN (fromF sig i fr) k = R at *
      obtain ⟨s', hs'⟩ : ∃ s', s' = sig.drop (k * 16) := ⟨_, rfl⟩
      rw [← hs'] at HPT ⊢
      clear hs'
      go_wp2_with (refine wpList_copy_bytes rfl _ _ 97 9 rfl 5 Tryz.underlying97 (by kernel_rfl) wr.heap.size 16 16 s' (List.replicate 16 0) 29 rfl rfl rfl HX4.out ?_)
      intro w5 hc hb
      have HX5 := Lib.hid (show Blk wr.heap.size 29 .u8 (byteNs (part sig k)) w5 by
        have h : Blk wr.heap.size 29 .u8 (byteNs (s'.take (List.replicate 16 0).length) ++ (List.replicate 16 0).drop s'.length) w5 := hc.out
        rw [HPT.out] at h
        exact h)
      have HO5 := Lib.hid (HO4.out.but hb.out HAP.out)
      have HK5 := Lib.hid (HK4.out.but hb.out (by have := HK1.out.lt; have := HW.out; omega))
      have HB5 := Lib.hid (show Below w1.heap.size w1 w5 from But.toBelow HB4.out hb.out HW.out HB4.out.size)
      clear hc hb HX4 HO4 HK4 HB4 HPT
      generalize byteNs (part sig k) = P at *
      have HIP := Lib.hid (show (Tryz.prog.info? 29).map (·.size) = some P.length by rw [HPL.out]; exact Tryz.infoE)
      go_wp2_with (refine wpList_load_nums rfl 29 _ rfl wr.heap.size .u8 _ 29 _ rfl HX5.out Tryz.underlying29 rfl HIP.out ?_)
      refine (dev_walk P i k y 15 _ HPL.out HPN.out HI0.out HI1.out (by omega) (by omega) (by omega) (by omega) (by omega) (by omega) HK5.out).mono ?_
      rintro e w6 ⟨rfl, hb6⟩
      rw [← HF.out]
      have HX6 := Lib.hid (HX5.out.below hb6)
      have HO6 := Lib.hid (HO5.out.below hb6)
      have HB6 := Lib.hid (HB5.out.trans (hb6.mono HB5.out.size))
      clear hb6 HX5 HO5 HK5 HB5 HF
      have HI := Lib.hid (show (Tryz.prog.info? 29).map (·.size) = some x.length by rw [HFL.out]; exact Tryz.infoE)
      have HL2 := Lib.hid (show P.length = x.length by rw [HFL.out, HPL.out])
      go_wp2_with (refine wpList_store_nums rfl 29 _ _ rfl rfl wr.heap.size .u8 _ x 29 rfl rfl HX6.out HI.out HL2.out ?_)
      intro w7 hc hb
      have HX7 := Lib.hid (show Blk wr.heap.size 29 .u8 x w7 from hc.out)
      have HB7 := Lib.hid (show Below w1.heap.size w1 w7 from But.toBelow HB6.out hb.out HW.out HB6.out.size)
      have HO7 := Lib.hid (HO6.out.but hb.out HAP.out)
      have HLA := Lib.hid (show R.length + x.length ≤ maxLen by rw [HRL.out, HFL.out]; unfold maxLen; omega)
      have HLB := Lib.hid (show (R.length + x.length) * 1 ≤ 140737488355328 by rw [HRL.out, HFL.out]; omega)
      clear hc hb HX6 HB6 HO6 HI HL2
      go_wp2_with (refine wpList_append_nums rfl (.tmp 29) (.tmp 30) 97 5 rfl w1.heap.size .u8 1 Tryz.underlying97 Tryz.infoByte4 (.slice ao R.length cp) R x ⟨wr.heap.size, 0, none⟩ 16 16 HFL.out.symm rfl HO7.out rfl (blk_news HX7.out) HLA.out HLB.out HB7.out.size ?_)
      intro v8 w8 ho8 hb8
      have HB8 := Lib.hid (show Below w1.heap.size w1 w8 from HB7.out.trans hb8.out)
      clear hb8
      go_wp2_with fail
      exact ⟨⟨k + 1, by omega, by go_num, by rw [HRN.out]; exact ho8.out, HB8.out⟩, by simp [intOf]; omega⟩
    · obtain rfl : k = 35 := by omega
      have hconv := conv_row (rowN (fromF sig i fr) 35) rfl (by rw [rowN_len' (k := 35) (fun j hj => fromF_len HS.out i fr hj)]; decide) (rowN_lt (fromF_lt sig i fr) 35) HO.out
      rw [txt_rowN] at hconv
      have HBr := Lib.hid (HB1.out.trans (HB.out.mono HB1.out.size))
      clear HO HB HKr
      go_wp2_with fail
      go_ret
      exact ⟨rfl, HBr.out⟩
end Go.Proofs.YtpfhlhcnmeodbaaGreatDoor
namespace Go.Proofs.YtpfhlhcnmeodbaaGreatDoor
open Go.RowKit Go.BigFrame
def lastL (k : Nat) : List Nat := List.replicate k 15 ++ List.replicate (35 - k) 0
theorem lastL_len {k : Nat} (hk : k ≤ 35) : (lastL k).length = 35 := by simp [lastL]; omega
theorem lastL_set {k : Nat} (hk : k < 35) : (lastL k).set k 15 = lastL (k + 1) := by
  unfold lastL
  rw [List.set_append_right _ _ (by simp), List.length_replicate, Nat.sub_self, show 35 - k = (35 - (k + 1)) + 1 by omega, List.replicate_succ, List.set_cons_zero, List.replicate_succ', List.append_assoc]
  rfl
theorem last_row (seed : List UInt8) (i : Int) : rowE (toF seed i (lastL 35)) 35 = rowE (endF seed i) 35 := by
  refine rowE_congr fun j hj => ?_
  have h : ∀ j : Fin 35, (lastL 35).getD j.val 0 = 15 := by decide
  have e : (lastL 35).getD j 0 = 15 := h ⟨j, hj⟩
  rw [toF, e, endF]
  rfl
set_option maxHeartbeats 4000000 in
set_option maxRecDepth 100000 in
theorem dev_leaf (seed : List UInt8) (i : Int) (w : World) (hs : seed.length ≤ 4000) (hi0 : -9223372036854775808 ≤ i) (hi : i ≤ 9223372036854775807) (hk : KAt w) :
    Calls Tryz.prog 37 #[.string ⟨seed.toArray⟩, .int .i64 i] w fun e w' => e = .returned (.agg (nums .u8 (leafN seed i)).toArray) ∧ Below w.heap.size w w' := by
  have HS := Lib.hid hs
  have HK := Lib.hid hk
  have HI0 := Lib.hid hi0
  have HI1 := Lib.hid hi
  clear hs hk hi0 hi
  go_enter Tryz.func37, Tryz.ntmps37
  go_upto_region 2 with (fail)
  change Code.wp _ _ _ _ ((w.alloc (.cells (nums .u8 (List.replicate 16 0)).toArray 29)).alloc (.cells (nums .i64 (List.replicate 35 0)).toArray 107))
  obtain ⟨w1, hw1⟩ : ∃ x', x' = (w.alloc (.cells (nums .u8 (List.replicate 16 0)).toArray 29)).alloc (.cells (nums .i64 (List.replicate 35 0)).toArray 107) := ⟨_, rfl⟩
  rw [← hw1]
  have h3 : Cells w.heap.size 29 (nums .u8 (List.replicate 16 0)).toArray w1 ∧ Blk (w.heap.size + 1) 107 .i64 (List.replicate 35 0) w1 ∧ Below w.heap.size w w1 := by rw [hw1]; exact cells_nums_new w _ _ _ _ _
  obtain ⟨hx1, hr1, hb1⟩ := h3
  have HX1 := Lib.hid (show Blk w.heap.size 29 .u8 (List.replicate 16 0) w1 from hx1)
  have HD1 := Lib.hid hr1
  have HB1 := Lib.hid hb1
  have HK1 := Lib.hid (HK.out.below hb1)
  have HKL := Lib.hid (HK.out.lt)
  obtain ⟨gd, hgd⟩ : ∃ g, g = w.heap.size + 1 := ⟨_, rfl⟩
  rw [← hgd] at HD1 ⊢
  have HGD := Lib.hid hgd
  clear hx1 hr1 hb1 hw1 HK hgd
  go_wp2_with fail
  go_loopw [7] (fun n wq => ∃ k : Nat, k ≤ 35 ∧ n = .int .i64 k ∧ Blk gd 107 .i64 (lastL k) wq ∧ But gd w1 wq) (fun n _ => 35 - (intOf n).toNat)
  case atStart => exact ⟨0, by omega, rfl, HD1.out, But.refl _ _⟩
  case round =>
    clear HD1
    obtain ⟨k, hk, rfl, hc, hb⟩ := hrel
    have HC := Lib.hid hc
    have HB := Lib.hid hb
    clear hc hb
    by_cases hlk : k < 35
    · have HLL := Lib.hid (lastL_len hk)
      have HLS := Lib.hid (lastL_set hlk)
      generalize lastL k = L at *
      have c1 := HC.out.cell k (by rw [HLL.out]; omega)
      have f1 := HC.out.frozen k
      have HS3 := Lib.hid (HC.out.set k 15)
      rw [HLS.out] at HS3
      generalize L.getD k 0 = z at c1
      clear HLS
      go_wp2_with fail
      exact ⟨⟨k + 1, by omega, by go_num, HS3.out, HB.out.setCell _ _⟩, by simp [intOf]; omega⟩
    · obtain rfl : k = 35 := by omega
      have HXr := Lib.hid (HX1.out.but HB.out (by have := HGD.out; omega))
      have HKr := Lib.hid (HK1.out.but HB.out (by have := HGD.out; have := HKL.out; omega))
      have HBr := Lib.hid (show Below w.heap.size w wr from But.toBelow HB1.out HB.out (by have := HGD.out; omega) HB1.out.size)
      have HLL := Lib.hid (lastL_len (Nat.le_refl 35))
      have LLT := Lib.hid (show ∀ d ∈ lastL 35, d < 16 by decide)
      have HLR := Lib.hid (last_row seed i)
      clear HX1 HB1 HK1 HB
      generalize lastL 35 = L at *
      have HIL := Lib.hid (show (Tryz.prog.info? 107).map (·.size) = some L.length by rw [HLL.out]; exact Tryz.infoDg)
      go_wp2_with (refine wpList_load_nums rfl 107 _ rfl gd .i64 _ 107 _ rfl HC.out Tryz.underlying107 rfl HIL.out ?_)
      refine (dev_reach seed i L _ HS.out HI0.out HI1.out HLL.out LLT.out HKr.out).mono ?_
      rintro e w2 ⟨rfl, hb2⟩
      rw [HLR.out]
      have HX2 := Lib.hid (HXr.out.below hb2)
      have HB2 := Lib.hid (HBr.out.trans (hb2.mono HBr.out.size))
      have HK2 := Lib.hid (HKr.out.below hb2)
      have HEL := Lib.hid (show (rowE (endF seed i) 35).length ≤ 4000 by rw [rowE_len (endF_len seed i)]; decide)
      have HLF := Lib.hid (show keyN (rowE (endF seed i) 35) i = leafN seed i from rfl)
      generalize rowE (endF seed i) 35 = E at *
      clear hb2 HXr HBr HKr HC HIL HLL LLT HLR
      go_wp2_with fail
      refine (dev_key E i _ HEL.out HI0.out HI1.out HK2.out).mono ?_
      rintro e w4 ⟨rfl, hb4⟩
      rw [HLF.out]
      have HR4 := Lib.hid (HX2.out.below hb4)
      have HB4 := Lib.hid (HB2.out.trans (hb4.mono HB2.out.size))
      have HNL := Lib.hid (show (leafN seed i).length = 16 from keyN_len _ _)
      clear hb4 HX2 HB2 HK2 HEL HLF
      obtain ⟨N, hN⟩ : ∃ N, leafN seed i = N := ⟨_, rfl⟩
      rw [hN] at HNL ⊢
      have HN := Lib.hid hN
      clear hN
      have HI := Lib.hid (show (Tryz.prog.info? 29).map (·.size) = some N.length by rw [HNL.out]; exact Tryz.infoE)
      have HL2 := Lib.hid (show (List.replicate 16 0).length = N.length by rw [HNL.out]; rfl)
      go_wp2_with (refine wpList_store_nums rfl 29 _ _ rfl rfl w.heap.size .u8 _ N 29 rfl rfl HR4.out HI.out HL2.out ?_)
      intro w7 hc' hb'
      have HC7 := Lib.hid (show Blk w.heap.size 29 .u8 N w7 from hc'.out)
      have HB7 := Lib.hid (show Below w.heap.size w w7 from But.toBelow HB4.out hb'.out (by omega) HB4.out.size)
      clear hc' hb'
      go_wp2_with fail
      exact bodyPost_ret (results_nums rfl _ _ w.heap.size .u8 _ 29 _ rfl HC7.out Tryz.underlying29 rfl HI.out) rfl ⟨by rw [HN.out], HB7.out⟩
set_option maxHeartbeats 4000000 in
set_option maxRecDepth 100000 in
theorem dev_sign (seed : List UInt8) (i : Int) (d : List Nat) (w : World) (hs : seed.length ≤ 4000) (hi0 : -9223372036854775808 ≤ i) (hi : i ≤ 9223372036854775807) (hd : d.length = 16) (ld : ∀ y ∈ d, y < 256) (hk : KAt w) :
    Calls Tryz.prog 47 #[.string ⟨seed.toArray⟩, .int .i64 i, .agg (nums .u8 d).toArray] w fun e w' => e = .returned (.string ⟨(signN seed i d).toArray⟩) ∧ Below w.heap.size w w' := by
  have HS := Lib.hid hs
  have HK := Lib.hid hk
  have HD := Lib.hid hd
  have LD := Lib.hid ld
  have HI0 := Lib.hid hi0
  have HI1 := Lib.hid hi
  clear hs hk hi0 hi hd ld
  go_enter Tryz.func47, Tryz.ntmps47
  go_upto_region 1 with (fail)
  obtain ⟨w1, hw1⟩ : ∃ x', x' = w.alloc (.cells (nums .u8 d).toArray 29) := ⟨_, rfl⟩
  rw [← hw1]
  have hb1 : Below w.heap.size w w1 := by rw [hw1]; exact (Below.refl _ _).alloc (Nat.le_refl _) _
  have HD1 := Lib.hid (show Blk w.heap.size 29 .u8 d w1 by rw [hw1]; exact heap_alloc_new w _)
  have HB1 := Lib.hid hb1
  have HK1 := Lib.hid (HK.out.below hb1)
  have HI := Lib.hid (show (Tryz.prog.info? 29).map (·.size) = some d.length by rw [HD.out]; exact Tryz.infoE)
  clear hb1 hw1 HK
  go_wp2_with (refine wpList_load_nums rfl 29 _ rfl w.heap.size .u8 _ 29 _ rfl HD1.out Tryz.underlying29 rfl HI.out ?_)
  refine (dev_digits d _ HD.out LD.out).mono ?_
  rintro e w2 ⟨rfl, hb2⟩
  have HB2 := Lib.hid (HB1.out.trans (hb2.mono HB1.out.size))
  have HK2 := Lib.hid (HK1.out.below hb2)
  clear hb2 HB1 HK1 HD1
  go_wp2_with fail
  refine (dev_reach seed i (digN d) _ HS.out HI0.out HI1.out (digN_len HD.out) (digN_lt HD.out LD.out) HK2.out).mono ?_
  rintro e w3 ⟨rfl, hb3⟩
  rw [show rowE (toF seed i (digN d)) 35 = signN seed i d from rfl]
  have HB3 := Lib.hid (HB2.out.trans (hb3.mono HB2.out.size))
  clear hb3
  go_wp2_with fail
  go_ret
  exact ⟨rfl, HB3.out⟩
end Go.Proofs.YtpfhlhcnmeodbaaGreatDoor
namespace Go.Proofs.YtpfhlhcnmeodbaaGreatDoor
open Go.RowKit Go.BigFrame
theorem meetN_of (sig : List UInt8) (i : Int) (d : List Nat) : keyN (rowE (fromF sig i (digN d)) 35) i = meetN sig i d := rfl
theorem rowE_len' {f : Nat → List Nat} {k : Nat} (hf : ∀ j, j < k → (f j).length = 16) : (rowE f k).length = 16 * k := by
  rw [← txt_rowN, txt_len, rowN_len' hf]
set_option maxHeartbeats 4000000 in
set_option maxRecDepth 100000 in
theorem dev_meet (sig : List UInt8) (i : Int) (d : List Nat) (w : World) (hs : sig.length = 560) (hi0 : -9223372036854775808 ≤ i) (hi : i ≤ 9223372036854775807) (hd : d.length = 16) (ld : ∀ y ∈ d, y < 256) (hk : KAt w) :
    Calls Tryz.prog 52 #[.string ⟨sig.toArray⟩, .int .i64 i, .agg (nums .u8 d).toArray] w fun e w' => e = .returned (.tuple #[.agg (nums .u8 (meetN sig i d)).toArray, .int .i64 0]) ∧ Below w.heap.size w w' := by
  have HS := Lib.hid hs
  have HK := Lib.hid hk
  have HD := Lib.hid hd
  have LD := Lib.hid ld
  have HI0 := Lib.hid hi0
  have HI1 := Lib.hid hi
  clear hs hk hi0 hi hd ld
  go_enter Tryz.func52, Tryz.ntmps52
  go_upto_region 1 with (fail)
  change Code.wp _ _ _ _ ((w.alloc (.cells (nums .u8 d).toArray 29)).alloc (.cells (nums .u8 (List.replicate 16 0)).toArray 29))
  obtain ⟨w1, hw1⟩ : ∃ x', x' = (w.alloc (.cells (nums .u8 d).toArray 29)).alloc (.cells (nums .u8 (List.replicate 16 0)).toArray 29) := ⟨_, rfl⟩
  rw [← hw1]
  have h3 : Blk w.heap.size 29 .u8 d w1 ∧ Blk (w.heap.size + 1) 29 .u8 (List.replicate 16 0) w1 ∧ Below w.heap.size w w1 := by rw [hw1]; exact two_new w _ _ _ _
  obtain ⟨hx1, hr1, hb1⟩ := h3
  have HD1 := Lib.hid hx1
  have HR1 := Lib.hid hr1
  have HB1 := Lib.hid hb1
  have HK1 := Lib.hid (HK.out.below hb1)
  have HI := Lib.hid (show (Tryz.prog.info? 29).map (·.size) = some d.length by rw [HD.out]; exact Tryz.infoE)
  obtain ⟨gr, hgr⟩ : ∃ g, g = w.heap.size + 1 := ⟨_, rfl⟩
  rw [← hgr] at HR1 ⊢
  have HGR := Lib.hid hgr
  clear hx1 hr1 hb1 hw1 HK hgr
  have hlen := HS.out
  go_wp2_with (refine wpList_load_nums rfl 29 _ rfl w.heap.size .u8 _ 29 _ rfl HD1.out Tryz.underlying29 rfl HI.out ?_)
  refine (dev_digits d _ HD.out LD.out).mono ?_
  rintro e w2 ⟨rfl, hb2⟩
  have HB2 := Lib.hid (HB1.out.trans (hb2.mono HB1.out.size))
  have HK2 := Lib.hid (HK1.out.below hb2)
  have HR2 := Lib.hid (HR1.out.below hb2)
  clear hb2 HB1 HK1 HD1 HR1
  go_wp2_with fail
  refine (dev_ends sig i (digN d) _ HS.out HI0.out HI1.out (digN_len HD.out) (digN_lt HD.out LD.out) HK2.out).mono ?_
  rintro e w3 ⟨rfl, hb3⟩
  have HB3 := Lib.hid (HB2.out.trans (hb3.mono HB2.out.size))
  have HK3 := Lib.hid (HK2.out.below hb3)
  have HR3 := Lib.hid (HR2.out.below hb3)
  have HEL := Lib.hid (show (rowE (fromF sig i (digN d)) 35).length ≤ 4000 by rw [rowE_len' (k := 35) fun j hj => fromF_len HS.out i _ hj]; decide)
  have HMN := Lib.hid (meetN_of sig i d)
  clear hb3 HB2 HK2 HR2 hlen
  generalize rowE (fromF sig i (digN d)) 35 = E at *
  go_wp2_with fail
  refine (dev_key E i _ HEL.out HI0.out HI1.out HK3.out).mono ?_
  rintro e w4 ⟨rfl, hb4⟩
  have HR4 := Lib.hid (HR3.out.below hb4)
  have HB4 := Lib.hid (HB3.out.trans (hb4.mono HB3.out.size))
  have HNL := Lib.hid (show (keyN E i).length = 16 from keyN_len _ _)
  clear hb4 HR3 HB3 HK3 HEL
  generalize keyN E i = N at *
  have HI := Lib.hid (show (Tryz.prog.info? 29).map (·.size) = some N.length by rw [HNL.out]; exact Tryz.infoE)
  have HL2 := Lib.hid (show (List.replicate 16 0).length = N.length by rw [HNL.out]; rfl)
  go_wp2_with (refine wpList_store_nums rfl 29 _ _ rfl rfl gr .u8 _ N 29 rfl rfl HR4.out HI.out HL2.out ?_)
  intro w7 hc' hb'
  have HC7 := Lib.hid (show Blk gr 29 .u8 N w7 from hc'.out)
  have HB7 := Lib.hid (show Below w.heap.size w w7 from But.toBelow HB4.out hb'.out (by have := HGR.out; omega) HB4.out.size)
  clear hc' hb'
  go_wp2_with fail
  exact bodyPost_ret (results_nums_tmp rfl _ _ gr .u8 _ 29 _ _ rfl rfl HC7.out Tryz.underlying29 rfl HI.out) rfl ⟨by rw [← HMN.out]; rfl, HB7.out⟩
end Go.Proofs.YtpfhlhcnmeodbaaGreatDoor
namespace Go.Proofs.YtpfhlhcnmeodbaaGreatDoor
open Go.RowKit
set_option maxHeartbeats 4000000 in
set_option maxRecDepth 100000 in
theorem ref_secret (seed : List UInt8) (i c : Int) (w : World) (hs : seed.length ≤ 4000) (hi0 : -9223372036854775808 ≤ i) (hi : i ≤ 9223372036854775807) (hc0 : -9223372036854775808 ≤ c) (hc : c ≤ 9223372036854775807) :
    Calls Tryz.prog 67 #[.string ⟨seed.toArray⟩, .int .i64 i, .int .i64 c] w fun e w' => e = .returned (.agg (nums .u8 (secN seed i c)).toArray) ∧ Below w.heap.size w w' := by
  have HS := Lib.hid hs
  clear hs
  go_enter Tryz.func67, Tryz.ntmps67
  go_upto_region 1 with (fail)
  change Code.wp _ _ _ _ (w.alloc (.cells (nums .u8 (List.replicate 16 0)).toArray 29))
  obtain ⟨w1, hw1⟩ : ∃ x', x' = w.alloc (.cells (nums .u8 (List.replicate 16 0)).toArray 29) := ⟨_, rfl⟩
  rw [← hw1]
  have HB1 := Lib.hid (show Below w.heap.size w w1 by rw [hw1]; exact (Below.refl _ _).alloc (Nat.le_refl _) _)
  have HR1 := Lib.hid (show Blk w.heap.size 29 .u8 (List.replicate 16 0) w1 by rw [hw1]; exact heap_alloc_new w _)
  have h1 := numB_length_9 (n := i.toNat) (by omega)
  have h2 := numB_length_9 (n := c.toNat) (by omega)
  have HP := Lib.hid (parts4_small (p := [107]) (a := seed) (b := numB i.toNat) (c := numB c.toNat) (by decide) HS.out (by omega) (by omega))
  clear hw1 h1 h2
  go_wp2_with fail
  refine (ref_num4 i _ hi0 hi).mono ?_
  rintro e w2 ⟨rfl, hb2⟩
  have HR2 := Lib.hid (HR1.out.below hb2)
  have HB2 := Lib.hid (HB1.out.trans (hb2.mono HB1.out.size))
  clear hb2 HR1 HB1
  go_wp2_with fail
  refine (ref_num4 c _ hc0 hc).mono ?_
  rintro e w2' ⟨rfl, hb2⟩
  have HR2' := Lib.hid (HR2.out.below hb2)
  have HB2' := Lib.hid (HB2.out.trans (hb2.mono HB2.out.size))
  clear hb2 HR2 HB2
  go_wp2_with fail
  refine (ref_sum [107] (some ⟨w2'.heap.size, 0, none⟩) 3 [seed, numB i.toNat, numB c.toNat] _ (at_three w2' _ _ _) (fun h => by cases h) (by simp) HP.out).mono ?_
  rintro e w3 ⟨rfl, hb3⟩
  have hb : Below w2'.heap.size w2' w3 := ((Below.refl _ w2').alloc (Nat.le_refl _) _).trans (hb3.mono (by simp))
  have HR3 := Lib.hid (HR2'.out.below hb)
  have HB3 := Lib.hid (HB2'.out.trans (hb.mono HB2'.out.size))
  clear hb hb3 HR2' HB2'
  go_wp2_with fail
  refine (ref_cut _ w3 (shaN_len _)).mono ?_
  rintro e w4 ⟨rfl, hb4⟩
  have HR4 := Lib.hid (HR3.out.below hb4)
  have HB4 := Lib.hid (HB3.out.trans (hb4.mono HB3.out.size))
  clear hb4 HR3 HB3
  rw [show (shaN (listB [[107], seed, numB i.toNat, numB c.toNat])).take 16 = secN seed i c from rfl]
  have HI := Lib.hid (show (Tryz.prog.info? 29).map (·.size) = some (secN seed i c).length by rw [secN_len]; exact Tryz.infoE)
  have HL2 := Lib.hid (show (List.replicate 16 0).length = (secN seed i c).length by rw [secN_len]; rfl)
  go_wp2_with (refine wpList_store_nums rfl 29 _ _ rfl rfl w.heap.size .u8 _ (secN seed i c) 29 rfl rfl HR4.out HI.out HL2.out ?_)
  intro w7 hc' hb'
  have HC7 := Lib.hid (show Blk w.heap.size 29 .u8 (secN seed i c) w7 from hc'.out)
  have HB7 := Lib.hid (show Below w.heap.size w w7 from But.toBelow HB4.out hb'.out (by omega) HB4.out.size)
  clear hc' hb'
  go_wp2_with fail
  exact bodyPost_ret (results_nums rfl _ _ w.heap.size .u8 _ 29 _ rfl HC7.out Tryz.underlying29 rfl HI.out) rfl ⟨rfl, HB7.out⟩
end Go.Proofs.YtpfhlhcnmeodbaaGreatDoor
