/-
  Joined: The document's Text of layer 15.; The document's num, LinkText, Link, Word of layer 16.; The document's ReadAuth of layer 16.
-/
import Derived.Test.YtpfhlhcnmeodbaaDoorJ01
import Derived.Test.YtpfhlhcnmeodbaaDoorJ02
import Derived.Test.YtpfhlhcnmeodbaaDoorJ04
import Derived.Test.YtpfhlhcnmeodbaaDoorJ05
import Derived.Test.YtpfhlhcnmeodbaaDoorJ06
import Derived.Test.YtpfhlhcnmeodbaaDoorJ07
import Derived.Test.YtpfhlhcnmeodbaaDoorJ08
import Derived.Test.YtpfhlhcnmeodbaaDoorJ09
namespace Go.Proofs.YtpfhlhcnmeodbaaDoor
open Go.RowKit Go.BigFrame
theorem OwnS.lit (w : World) (B : Nat) (L : List (List UInt8)) (n c : Nat) (hB : B ≤ w.heap.size) (hn : n = L.length) (hc : c = L.length) (h : L.length ≤ 1000) : OwnS B (.slice (some ⟨w.heap.size, 0, none⟩) n c) L (w.alloc (.cells (strs L).toArray 9)) := by
  subst hn hc
  have h1 := World.ownsRow_lit (base := B) (e := 9) (size := 1) w (strs L).toArray L.length hB (by unfold maxLen; omega) (by rw [List.size_toArray, strs_length, Nat.mul_one])
  exact h1
theorem op_slice_whole {P : Program} {o : Oper} {a : Act} {w : World} {K : Act → World → Prop} {Q : Exit → Act → World → Prop} (t : TypeId) (x : Operand) (ho : o.op = .slice t x none none none) (vx r : Value) (hx : a.eval x = vx)
    (hr : ∀ w, (Instr.sliceAt t vx none none none).run P w = .ok r w) (h : K (a.put o.dst r) w) : OpWp P o a w K Q := by
  refine ⟨?_⟩
  unfold Oper.wp execOp
  simp only [ho, hx, Option.map_none, Sem.run_bind, Sem.run_pure, hr, Result.andThen_ok]
  exact h
theorem slice_id (g o : Nat) (w : World) : (Instr.sliceAt 24 (.pointer (some ⟨g, o, none⟩)) none none none).run Tryd.prog w = .ok (.slice (some ⟨g, o, none⟩) 32 32) w := by kernel_rfl
theorem field_ent2 (g : Nat) (w : World) : (Instr.fieldAt 35 (.pointer (some ⟨g, 0, none⟩)) 2).run Tryd.prog w = .ok (.pointer (some ⟨g, 36, none⟩)) w := by kernel_rfl
theorem field_ent3 (g : Nat) (w : World) : (Instr.fieldAt 35 (.pointer (some ⟨g, 0, none⟩)) 3).run Tryd.prog w = .ok (.pointer (some ⟨g, 37, none⟩)) w := by kernel_rfl
theorem field_ent4 (g : Nat) (w : World) : (Instr.fieldAt 35 (.pointer (some ⟨g, 0, none⟩)) 4).run Tryd.prog w = .ok (.pointer (some ⟨g, 38, none⟩)) w := by kernel_rfl
theorem field_ent5 (g : Nat) (w : World) : (Instr.fieldAt 35 (.pointer (some ⟨g, 0, none⟩)) 5).run Tryd.prog w = .ok (.pointer (some ⟨g, 70, none⟩)) w := by kernel_rfl
theorem field_ent6 (g : Nat) (w : World) : (Instr.fieldAt 35 (.pointer (some ⟨g, 0, none⟩)) 6).run Tryd.prog w = .ok (.pointer (some ⟨g, 71, none⟩)) w := by kernel_rfl
set_option maxHeartbeats 4000000 in
set_option maxRecDepth 100000 in
theorem ref_text15 (e : EntN) (he : e.Len) (hq : e.seq < 9223372036854775808) (w : World) :
    Calls Tryd.prog 64 #[.agg (entV e)] w fun r w' => r = .returned (.string ⟨(entB e).toArray⟩) ∧ Below w.heap.size w w' := by
  have hx : Cells w.heap.size 35 (entV e) (w.alloc (.cells (entV e) 35)) := heap_alloc_new w _
  have hb : Below w.heap.size w (w.alloc (.cells (entV e) 35)) := (Below.refl _ _).alloc (Nat.le_refl _) _
  have HX := Lib.hid hx
  have HB := Lib.hid hb
  have HE := Lib.hid he
  have HGD := Lib.hid (fun w' => ref_good15 e he w')
  have HSE := Lib.hid (sizeEV he.ok)
  have HLE := Lib.hid (fun h : GoodE e => partsE_le h ⟨he.ok, hq⟩)
  have HQ := Lib.hid hq
  clear hx hb he hq
  obtain ⟨g, hg⟩ : ∃ b, decide (GoodE e) = b := ⟨_, rfl⟩
  have HG := Shut.mk hg
  rw [hg] at HGD
  clear hg
  go_enter Tryd.func64, Tryd.ntmps64
  go_upto_region 1 with (fail)
  obtain ⟨w1, hw1⟩ : ∃ x, x = w.alloc (.cells (entV e) 35) := ⟨_, rfl⟩
  rw [← hw1] at HX HB ⊢
  clear hw1
  have HBL := Lib.hid HX.out.lt
  have HSD := Lib.hid (show (Tryd.prog.info? 33).map (·.size) = some (draftL e.d).length by rw [draftL_len HE.out.ok.ref.1]; exact Tryd.sizeD)
  go_wp2_with (refine wpList_load_cells rfl 35 _ rfl w.heap.size (entV e) 35 _ rfl HX.out Tryd.underlying35 rfl HSE.out ?_)
  refine (HGD.out w1).mono ?_
  rintro r w2 ⟨rfl, hb⟩
  have HB2 := Lib.hid hb
  clear hb HGD
  cases g with
  | false =>
    have HZ := Shut.mk (entB_bad (of_decide_eq_false HG.out))
    go_wp2_with fail
    go_ret
    exact ⟨by rw [HZ.out]; rfl, HB.out.trans (HB2.out.mono HB.out.size)⟩
  | true =>
  have hgood := of_decide_eq_true HG.out
  have HZ := Shut.mk (entB_good hgood)
  have HGO := Lib.hid hgood
  have HLN := Lib.hid (HLE.out hgood)
  clear HLE HG
  obtain ⟨kk, hk, hk3⟩ : ∃ kk : Nat, e.kind = kk ∧ (kk = 1 ∨ kk = 2 ∨ kk = 3) := by
    rcases hgood with h | h | h
    · exact ⟨1, h.1, .inl rfl⟩
    · exact ⟨2, h.1, .inr (.inl rfl)⟩
    · exact ⟨3, h.1, .inr (.inr rfl)⟩
  have HK := Shut.mk hk
  have c0 := (ent_cells HE.out.ok (HX.out.below HB2.out)).1
  rw [hk] at c0
  have hkl : kk < 9223372036854775808 := by omega
  clear hk hgood
  have HK3 := Lib.hid hk3
  clear hk3
  go_wp2_with fail
  refine (rnumref_any kk w2 hkl).mono ?_
  rintro r w3 ⟨rfl, hb⟩
  have HB3 := Lib.hid (HB2.out.trans (hb.mono HB2.out.size))
  clear hb c0 HB2 hkl
  obtain ⟨N1, hN1⟩ : ∃ x, numB kk = x := ⟨_, rfl⟩
  have HN1 := Shut.mk hN1
  rw [hN1]
  clear hN1
  go_upto_region 4 with (fail)
  have HO := Lib.hid (OwnS.lit w3 w1.heap.size [N1] 1 1 HB3.out.size rfl rfl (by simp))
  obtain ⟨w4, hw4⟩ : ∃ x, x = w3.alloc (.cells #[.string ⟨N1.toArray⟩] 9) := ⟨_, rfl⟩
  have HB4 := Lib.hid (show Below w1.heap.size w1 w4 by rw [hw4]; exact HB3.out.alloc HB3.out.size _)
  rw [show (strs [N1]).toArray = #[.string ⟨N1.toArray⟩] from rfl, ← hw4] at HO
  rw [← hw4]
  clear hw4
  have HX4 := Lib.hid (HX.out.below HB4.out)
  obtain ⟨c0, cd, cf, cq, cp, cm, cy, cs⟩ := ent_cells HE.out.ok HX4.out
  have HCD := Lib.hid cd
  have HCP := Lib.hid cp
  rw [HK.out] at c0
  clear cd cp HB3
  rcases HK3.out with rfl | rfl | rfl
  · have hgood := HGO.out
    have hk1 : e.kind = 1 := HK.out
    have hd : GoodD e.d := by
      rcases hgood with h | h | h
      · exact h.2.1
      · have := h.1; omega
      · have := h.1; omega
    have HP := Shut.mk (show partsE e = [N1, draftB e.d] by rw [partsE, if_pos hk1, ← HN1.out])
    have HDT := Lib.hid (fun w' => ref_draftText e.d (hd.fit HE.out.ok.ref) w')
    have c0 : w4.cell? ⟨w.heap.size, 0, none⟩ = some (.int .i64 1) := c0
    rw [HP.out] at HZ HLN
    obtain ⟨DB, hDB⟩ : ∃ x, draftB e.d = x := ⟨_, rfl⟩
    rw [hDB] at HDT HZ HLN
    clear hk1 hd hDB HP hgood cf cq cm cy cs HCP
    go_wp2_with (refine wpList_load_mid rfl 33 _ rfl w.heap.size 1 rfl _ _ HCD.out Tryd.underlying33 rfl HSD.out ?_)
    refine (HDT.out w4).mono ?_
    rintro r w5 ⟨rfl, hb⟩
    have HO5 := Lib.hid (HO.out.below hb)
    have HB5 := Lib.hid (HB4.out.trans (hb.mono HB4.out.size))
    clear hb c0 HCD HX4 HB4 HO HDT
    have HS := Lib.hid (strs_lit w5 [DB] 9)
    go_wp2_with (refine wpList_push_strs rfl _ _ rfl w1.heap.size _ [N1] [DB] (some ⟨w5.heap.size, 0, none⟩) 1 1 rfl rfl (HO5.out.below ((Below.refl _ w5).alloc (Nat.le_refl _) _)) rfl HS.out (fun h => by cases h) (by simp) (Nat.le_trans HB5.out.size (by rw [World.size_alloc]; exact Nat.le_succ _)) ?_)
    intro v6 w6 ho hb _
    obtain ⟨ao6, c6, rfl⟩ := ho.out.form
    have HS6 := Lib.hid (strsAt_own ho.out)
    have HB6 := Lib.hid (HB5.out.trans (((Below.refl _ w5).alloc HB5.out.size _).trans hb.out))
    clear ho hb HS HO5 HB5
    have c0 : w6.cell? ⟨w.heap.size, 0, none⟩ = some (.int .i64 1) := by
      have h := (ent_cells HE.out.ok (HX.out.below HB6.out)).1
      rw [HK.out] at h
      exact h
    go_wp2_with fail
    refine (rlistref_any ao6 c6 [N1, DB] w6 HS6.out (by simp) (by have := HLN.out; omega)).mono ?_
    rintro r w7 ⟨rfl, hb⟩
    have HB7 := Lib.hid (HB6.out.trans (hb.mono HB6.out.size))
    clear hb
    go_wp2_with fail
    go_ret
    exact ⟨by rw [HZ.out]; rfl, HB.out.trans (HB7.out.mono HB.out.size)⟩
  · have hgood := HGO.out
    have hk1 : e.kind = 2 := HK.out
    obtain ⟨a, b, m, hf, hq, hm, hal, hbl, hml⟩ : ∃ a b m : Nat, e.src = a ∧ e.seq = b ∧ e.mask = m ∧ a < 9223372036854775808 ∧ b < 9223372036854775808 ∧ m < 9223372036854775808 := by
      rcases hgood with h | h | h
      · have := h.1; omega
      · obtain ⟨_, ⟨h1, h2, _⟩, _, h4, h5, h6, _⟩ := h
        have := HQ.out
        exact ⟨e.src.toNat, e.seq.toNat, e.mask.toNat, by omega, by omega, by omega, by omega, by omega, by omega⟩
      · have := h.1; omega
    have HP := Shut.mk (show partsE e = [N1, numB a, numB b, txt e.prev, numB m, e.pay, e.sig] by
      rw [partsE, if_neg (by omega), if_pos hk1, ← HN1.out, hf, hq, hm]
      rfl)
    have c0 : w4.cell? ⟨w.heap.size, 0, none⟩ = some (.int .i64 2) := c0
    rw [HP.out] at HZ HLN
    rw [hf] at cf
    rw [hq] at cq
    have HC6 := Lib.hid (fun (w' : World) (q : Below w4.heap.size w4 w') => (q.cell (p := ⟨w.heap.size, 36, none⟩) (Nat.lt_of_lt_of_le HBL.out HB4.out.size)).trans cf)
    have HC7 := Lib.hid (fun (w' : World) (q : Below w4.heap.size w4 w') => (q.cell (p := ⟨w.heap.size, 37, none⟩) (Nat.lt_of_lt_of_le HBL.out HB4.out.size)).trans cq)
    have HC8 := Lib.hid (fun (w' : World) (q : Below w4.heap.size w4 w') => conv_mid (P := Tryd.prog) (src := 73) (dst := 9) (c := 32) Tryd.underlying73 Tryd.underlying5 Tryd.underlying9 HE.out.ok.prev.1.symm HE.out.ok.prev.2 (rangeAt_belowI HCP.out q (Nat.lt_of_lt_of_le HBL.out HB4.out.size)))
    have HNA := Lib.hid (fun w' => rnumref_any a w' hal)
    have HNB := Lib.hid (fun w' => rnumref_any b w' hbl)
    obtain ⟨PV, hPV⟩ : ∃ x, txt e.prev = x := ⟨_, rfl⟩
    rw [hPV] at HC8 HZ HLN
    have HM := Shut.mk hm
    clear hk1 HP hgood cf cq cm cy cs HCD hf hq hm hPV hal hbl
    go_upto_region 7 with (fail)
    refine wp_region_free 11 (fun q V w' => Vals q V [(0, .slice (some ⟨w3.heap.size, 0, none⟩) 1 1), (1, .pointer (some ⟨w.heap.size, 36, none⟩)), (2, .int .i64 (a : Int)), (3, .string ⟨(numB a).toArray⟩), (4, .pointer (some ⟨w.heap.size, 37, none⟩)), (5, .int .i64 (b : Int)), (6, .string ⟨(numB b).toArray⟩), (7, .pointer (some ⟨w.heap.size, 38, none⟩)), (8, .slice (some ⟨w.heap.size, 38, none⟩) 32 32), (9, .string ⟨PV.toArray⟩)] ∧ NewS q V 10 3 ([numB a, numB b, PV]) w' ∧ Below w4.heap.size w4 w') (fun _ => undef) (by kernel_rfl) (by kernel_rfl) (by kernel_rfl) (by simp only [List.take_succ_cons, List.take_zero, putAll, Act.put, List.setIfInBounds_toArray, List.set_cons_zero, List.set_cons_succ]) ⟨Vals.none, NewS.none, (Below.refl _ _).drew⟩ ?_ ?_
    · simp only [List.take_succ_cons, List.take_zero, putAll, Nat.zero_add, Nat.reduceAdd, Act.put, List.setIfInBounds_toArray, List.set_cons_zero, List.set_cons_succ]
      refine FreeSteps.cons ?_ (FreeSteps.cons ?_ (FreeSteps.cons ?_ (FreeSteps.cons ?_ (FreeSteps.cons ?_ (FreeSteps.cons ?_ (FreeSteps.cons ?_ (FreeSteps.cons ?_ (FreeSteps.cons ?_ (FreeSteps.cons ?_ (FreeSteps.cons ?_ (FreeSteps.nil)))))))))))
      all_goals (refine FreeStep.fresh rfl ?_; rintro q V wq hr hu ⟨hVs, h10, hb⟩ K hK)
      · exact op_move (.tmp 3) rfl _ rfl (hK _ _ ⟨hVs.set rfl, h10.ne (by decide) (Below.refl _ _), hb⟩)
      · exact op_fieldAt 35 (.tmp 1) 2 rfl _ _ rfl (field_ent2 w.heap.size) (hK _ _ ⟨hVs.set rfl, h10.ne (by decide) (Below.refl _ _), hb⟩)
      · exact op_load_cell 3 (.tmp 24) rfl _ _ (hVs.get 1 (hr { on := 1, ground := .data } (by simp) rfl) rfl) (HC6.out wq hb) Tryd.isAgg3 (hK _ _ ⟨hVs.set rfl, h10.ne (by decide) (Below.refl _ _), hb⟩)
      · refine op_call Tryd.func73 rfl rfl rfl [.int .i64 (a : Int)] ((congrArg (fun x => [x]) (hVs.get 2 (hr { on := 2, ground := .data } (by simp) rfl) rfl))) (HNA.out wq) ?_
        rintro e w' ⟨rfl, hb'⟩
        exact ⟨_, rfl, (hK _ _ ⟨hVs.set rfl, h10.ne (by decide) hb', hb.trans (hb'.mono hb.size)⟩)⟩
      · exact op_fieldAt 35 (.tmp 1) 3 rfl _ _ rfl (field_ent3 w.heap.size) (hK _ _ ⟨hVs.set rfl, h10.ne (by decide) (Below.refl _ _), hb⟩)
      · exact op_load_cell 3 (.tmp 27) rfl _ _ (hVs.get 4 (hr { on := 4, ground := .data } (by simp) rfl) rfl) (HC7.out wq hb) Tryd.isAgg3 (hK _ _ ⟨hVs.set rfl, h10.ne (by decide) (Below.refl _ _), hb⟩)
      · refine op_call Tryd.func73 rfl rfl rfl [.int .i64 (b : Int)] ((congrArg (fun x => [x]) (hVs.get 5 (hr { on := 5, ground := .data } (by simp) rfl) rfl))) (HNB.out wq) ?_
        rintro e w' ⟨rfl, hb'⟩
        exact ⟨_, rfl, (hK _ _ ⟨hVs.set rfl, h10.ne (by decide) hb', hb.trans (hb'.mono hb.size)⟩)⟩
      · exact op_fieldAt 35 (.tmp 1) 4 rfl _ _ rfl (field_ent4 w.heap.size) (hK _ _ ⟨hVs.set rfl, h10.ne (by decide) (Below.refl _ _), hb⟩)
      · exact op_slice_whole 24 (.tmp 30) rfl _ _ (hVs.get 7 (hr { on := 7, ground := .data } (by simp) rfl) rfl) (slice_id w.heap.size 38) (hK _ _ ⟨hVs.set rfl, h10.ne (by decide) (Below.refl _ _), hb⟩)
      · exact op_conv 73 9 (.tmp 31) rfl _ _ (hVs.get 8 (hr { on := 8, ground := .data } (by simp) rfl) rfl) (HC8.out wq hb) (hK _ _ ⟨hVs.set rfl, h10.ne (by decide) (Below.refl _ _), hb⟩)
      · exact op_build_strs 78 9 3 #[(0, .tmp 26), (1, .tmp 29), (2, .tmp 32)] rfl [(0, .string ⟨(numB a).toArray⟩), (1, .string ⟨(numB b).toArray⟩), (2, .string ⟨PV.toArray⟩)] _ (by
            have v3 := (hVs.get 3 (hr { on := 3, ground := .data } (by simp) rfl) rfl)
            have v6 := (hVs.get 6 (hr { on := 6, ground := .data } (by simp) rfl) rfl)
            have v9 := (hVs.get 9 (hr { on := 9, ground := .data } (by simp) rfl) rfl)
            rw [List.map_toArray]
            show [((0 : Nat), V 3), (1, V 6), (2, V 9)].toArray = _
            rw [v3, v6, v9]) (built_strs3 _ _ _) (hK _ _ ⟨hVs.off rfl, .same, hb.alloc hb.size _⟩)
    rintro q V wq hall ⟨hVs, h10, hb⟩
    have v0 := hVs.get 0 (hall 0 (by decide)) rfl
    have v1 := hVs.get 1 (hall 1 (by decide)) rfl
    have v2 := hVs.get 2 (hall 2 (by decide)) rfl
    have v3 := hVs.get 3 (hall 3 (by decide)) rfl
    have v4 := hVs.get 4 (hall 4 (by decide)) rfl
    have v5 := hVs.get 5 (hall 5 (by decide)) rfl
    have v6 := hVs.get 6 (hall 6 (by decide)) rfl
    have v7 := hVs.get 7 (hall 7 (by decide)) rfl
    have v8 := hVs.get 8 (hall 8 (by decide)) rfl
    have v9 := hVs.get 9 (hall 9 (by decide)) rfl
    obtain ⟨g10, v10, hs10⟩ := h10 (hall 10 (by decide))
    simp only [List.take_succ_cons, List.take_zero, List.drop_succ_cons, List.drop_zero, putAll, Nat.zero_add, Nat.reduceAdd, v0, v1, v2, v3, v4, v5, v6, v7, v8, v9, v10, Act.put, List.setIfInBounds_toArray, List.set_cons_zero, List.set_cons_succ]
    clear hVs v0 v1 v2 v3 v4 v5 v6 v7 v8 v9 v10 hall
    obtain ⟨w5, hw5⟩ : ∃ x, x = wq := ⟨_, rfl⟩
    rw [← hw5] at hb hs10 ⊢
    clear hw5
    have HOn := Lib.hid (HO.out.below hb)
    have HB5 := Lib.hid (HB4.out.trans (hb.mono HB4.out.size))
    have HS := Lib.hid hs10
    clear hb hs10 HO HB4
    obtain ⟨NA, hNA⟩ : ∃ x, numB a = x := ⟨_, rfl⟩
    obtain ⟨NB, hNB⟩ : ∃ x, numB b = x := ⟨_, rfl⟩
    rw [hNA, hNB] at HS HZ HLN
    clear hNA hNB HC6 HC7 HC8 HNA HNB c0 HX4 HCP
    refine wpList_push_strs rfl _ _ rfl w1.heap.size _ [N1] [NA, NB, PV] (some ⟨g10, 0, none⟩) 3 3 rfl rfl HOn.out rfl HS.out (fun h => by cases h) (by simp) HB5.out.size ?_
    intro v6 w6 ho hb _
    obtain ⟨ao6, c6, rfl⟩ := ho.out.form
    have HO6 := Lib.hid ho.out
    have HB6 := Lib.hid (HB5.out.trans hb.out)
    clear ho hb HS HOn HB5
    have c0 : w6.cell? ⟨w.heap.size, 0, none⟩ = some (.int .i64 2) := by
      have h := (ent_cells HE.out.ok (HX.out.below HB6.out)).1
      rw [HK.out] at h
      exact h
    have hm := HM.out
    obtain ⟨_, _, _, _, _, cm, cy, cs⟩ := ent_cells HE.out.ok (HX.out.below HB6.out)
    rw [hm] at cm
    have HCM := Lib.hid (fun (w' : World) (q : Below w6.heap.size w6 w') => (q.cell (p := ⟨w.heap.size, 70, none⟩) (Nat.lt_of_lt_of_le HBL.out HB6.out.size)).trans cm)
    have HCY := Lib.hid (fun (w' : World) (q : Below w6.heap.size w6 w') => (q.cell (p := ⟨w.heap.size, 71, none⟩) (Nat.lt_of_lt_of_le HBL.out HB6.out.size)).trans cy)
    have HNM := Lib.hid (fun w' => rnumref_any m w' hml)
    clear cm cy cs hm
    go_upto_region 9 with (fail)
    refine wp_region_free 7 (fun q V w' => Vals q V [(0, .slice ao6 4 c6), (1, .pointer (some ⟨w.heap.size, 70, none⟩)), (2, .int .i64 (m : Int)), (3, .string ⟨(numB m).toArray⟩), (4, .pointer (some ⟨w.heap.size, 71, none⟩)), (5, .string ⟨e.pay.toArray⟩)] ∧ NewS q V 6 2 ([numB m, e.pay]) w' ∧ Below w6.heap.size w6 w') (fun _ => undef) (by kernel_rfl) (by kernel_rfl) (by kernel_rfl) (by simp only [List.take_succ_cons, List.take_zero, putAll, Act.put, List.setIfInBounds_toArray, List.set_cons_zero, List.set_cons_succ]) ⟨Vals.none, NewS.none, (Below.refl _ _).drew⟩ ?_ ?_
    · simp only [List.take_succ_cons, List.take_zero, putAll, Nat.zero_add, Nat.reduceAdd, Act.put, List.setIfInBounds_toArray, List.set_cons_zero, List.set_cons_succ]
      refine FreeSteps.cons ?_ (FreeSteps.cons ?_ (FreeSteps.cons ?_ (FreeSteps.cons ?_ (FreeSteps.cons ?_ (FreeSteps.cons ?_ (FreeSteps.cons ?_ (FreeSteps.nil)))))))
      all_goals (refine FreeStep.fresh rfl ?_; rintro q V wq hr hu ⟨hVs, h6, hb⟩ K hK)
      · exact op_move (.tmp 3) rfl _ rfl (hK _ _ ⟨hVs.set rfl, h6.ne (by decide) (Below.refl _ _), hb⟩)
      · exact op_fieldAt 35 (.tmp 1) 5 rfl _ _ rfl (field_ent5 w.heap.size) (hK _ _ ⟨hVs.set rfl, h6.ne (by decide) (Below.refl _ _), hb⟩)
      · exact op_load_cell 3 (.tmp 39) rfl _ _ (hVs.get 1 (hr { on := 1, ground := .data } (by simp) rfl) rfl) (HCM.out wq hb) Tryd.isAgg3 (hK _ _ ⟨hVs.set rfl, h6.ne (by decide) (Below.refl _ _), hb⟩)
      · refine op_call Tryd.func73 rfl rfl rfl [.int .i64 (m : Int)] ((congrArg (fun x => [x]) (hVs.get 2 (hr { on := 2, ground := .data } (by simp) rfl) rfl))) (HNM.out wq) ?_
        rintro e w' ⟨rfl, hb'⟩
        exact ⟨_, rfl, (hK _ _ ⟨hVs.set rfl, h6.ne (by decide) hb', hb.trans (hb'.mono hb.size)⟩)⟩
      · exact op_fieldAt 35 (.tmp 1) 6 rfl _ _ rfl (field_ent6 w.heap.size) (hK _ _ ⟨hVs.set rfl, h6.ne (by decide) (Below.refl _ _), hb⟩)
      · exact op_load_cell 9 (.tmp 42) rfl _ _ (hVs.get 4 (hr { on := 4, ground := .data } (by simp) rfl) rfl) (HCY.out wq hb) Tryd.isAgg9 (hK _ _ ⟨hVs.set rfl, h6.ne (by decide) (Below.refl _ _), hb⟩)
      · exact op_build_strs 78 9 2 #[(0, .tmp 41), (1, .tmp 43)] rfl [(0, .string ⟨(numB m).toArray⟩), (1, .string ⟨e.pay.toArray⟩)] _ (by
            have v3 := (hVs.get 3 (hr { on := 3, ground := .data } (by simp) rfl) rfl)
            have v5 := (hVs.get 5 (hr { on := 5, ground := .data } (by simp) rfl) rfl)
            rw [List.map_toArray]
            show [((0 : Nat), V 3), (1, V 5)].toArray = _
            rw [v3, v5]) (built_strs2 _ _) (hK _ _ ⟨hVs.off rfl, .same, hb.alloc hb.size _⟩)
    rintro q V wq hall ⟨hVs, h6, hb⟩
    have v0 := hVs.get 0 (hall 0 (by decide)) rfl
    have v1 := hVs.get 1 (hall 1 (by decide)) rfl
    have v2 := hVs.get 2 (hall 2 (by decide)) rfl
    have v3 := hVs.get 3 (hall 3 (by decide)) rfl
    have v4 := hVs.get 4 (hall 4 (by decide)) rfl
    have v5 := hVs.get 5 (hall 5 (by decide)) rfl
    obtain ⟨g6, v6, hs6⟩ := h6 (hall 6 (by decide))
    simp only [List.take_succ_cons, List.take_zero, List.drop_succ_cons, List.drop_zero, putAll, Nat.zero_add, Nat.reduceAdd, v0, v1, v2, v3, v4, v5, v6, Act.put, List.setIfInBounds_toArray, List.set_cons_zero, List.set_cons_succ]
    clear hVs v0 v1 v2 v3 v4 v5 v6 hall
    obtain ⟨w7, hw7⟩ : ∃ x, x = wq := ⟨_, rfl⟩
    rw [← hw7] at hb hs6 ⊢
    clear hw7
    have HOn := Lib.hid (HO6.out.below hb)
    have HB7 := Lib.hid (HB6.out.trans (hb.mono HB6.out.size))
    have HS := Lib.hid hs6
    clear hb hs6 HO6 HB6
    obtain ⟨NM, hNM⟩ : ∃ x, numB m = x := ⟨_, rfl⟩
    rw [hNM] at HS HZ HLN
    clear hNM
    refine wpList_push_strs rfl _ _ rfl w1.heap.size _ [N1, NA, NB, PV] [NM, e.pay] (some ⟨g6, 0, none⟩) 2 2 rfl rfl HOn.out rfl HS.out (fun h => by cases h) (by simp) HB7.out.size ?_
    intro v8 w8 ho hb _
    obtain ⟨ao8, c8, rfl⟩ := ho.out.form
    have HO8 := Lib.hid ho.out
    have HB8 := Lib.hid (HB7.out.trans hb.out)
    clear ho hb HS HOn HB7
    have c0 : w8.cell? ⟨w.heap.size, 0, none⟩ = some (.int .i64 2) := by
      have h := (ent_cells HE.out.ok (HX.out.below HB8.out)).1
      rw [HK.out] at h
      exact h
    have cs := (ent_cells HE.out.ok (HX.out.below HB8.out)).2.2.2.2.2.2.2
    have HS := Lib.hid (strs_lit w8 [e.sig] 9)
    go_wp2_with (refine wpList_push_strs rfl _ _ rfl w1.heap.size _ [N1, NA, NB, PV, NM, e.pay] [e.sig] (some ⟨w8.heap.size, 0, none⟩) 1 1 rfl rfl (HO8.out.below ((Below.refl _ w8).alloc (Nat.le_refl _) _)) rfl HS.out (fun h => by cases h) (by simp) (Nat.le_trans HB8.out.size (by rw [World.size_alloc]; exact Nat.le_succ _)) ?_)
    intro v9 w9 ho hb _
    obtain ⟨ao9, c9, rfl⟩ := ho.out.form
    have HS9 := Lib.hid (strsAt_own ho.out)
    have HB9 := Lib.hid (HB8.out.trans (((Below.refl _ w8).alloc HB8.out.size _).trans hb.out))
    clear ho hb HS HO8 HB8 cs c0
    go_wp2_with fail
    refine (rlistref_any ao9 c9 [N1, NA, NB, PV, NM, e.pay, e.sig] w9 HS9.out (by simp) (by have := HLN.out; omega)).mono ?_
    rintro r wa ⟨rfl, hb⟩
    have HBa := Lib.hid (HB9.out.trans (hb.mono HB9.out.size))
    clear hb
    go_wp2_with fail
    go_ret
    exact ⟨by rw [HZ.out]; rfl, HB.out.trans (HBa.out.mono HB.out.size)⟩
  · have hgood := HGO.out
    have hk1 : e.kind = 3 := HK.out
    obtain ⟨m, hm, hml⟩ : ∃ m : Nat, e.mask = m ∧ m < 9223372036854775808 := by
      rcases hgood with h | h | h
      · have := h.1; omega
      · have := h.1; omega
      · obtain ⟨_, ⟨h1, h2, _⟩, _⟩ := h
        exact ⟨e.mask.toNat, by omega, by omega⟩
    have HP := Shut.mk (show partsE e = [N1, numB m, e.pay] by
      rw [partsE, if_neg (by omega), if_neg (by omega), ← HN1.out, hm]
      rfl)
    have c0 : w4.cell? ⟨w.heap.size, 0, none⟩ = some (.int .i64 3) := c0
    rw [HP.out] at HZ HLN
    clear hk1 HP hgood cf cq cm cy cs HCD HCP HX4
    obtain ⟨_, _, _, _, _, cm, cy, cs⟩ := ent_cells HE.out.ok (HX.out.below HB4.out)
    rw [hm] at cm
    have HCM := Lib.hid (fun (w' : World) (q : Below w4.heap.size w4 w') => (q.cell (p := ⟨w.heap.size, 70, none⟩) (Nat.lt_of_lt_of_le HBL.out HB4.out.size)).trans cm)
    have HCY := Lib.hid (fun (w' : World) (q : Below w4.heap.size w4 w') => (q.cell (p := ⟨w.heap.size, 71, none⟩) (Nat.lt_of_lt_of_le HBL.out HB4.out.size)).trans cy)
    have HNM := Lib.hid (fun w' => rnumref_any m w' hml)
    clear cm cy cs hm
    go_upto_region 9 with (fail)
    refine wp_region_free 7 (fun q V w' => Vals q V [(0, .slice (some ⟨w3.heap.size, 0, none⟩) 1 1), (1, .pointer (some ⟨w.heap.size, 70, none⟩)), (2, .int .i64 (m : Int)), (3, .string ⟨(numB m).toArray⟩), (4, .pointer (some ⟨w.heap.size, 71, none⟩)), (5, .string ⟨e.pay.toArray⟩)] ∧ NewS q V 6 2 ([numB m, e.pay]) w' ∧ Below w4.heap.size w4 w') (fun _ => undef) (by kernel_rfl) (by kernel_rfl) (by kernel_rfl) (by simp only [List.take_succ_cons, List.take_zero, putAll, Act.put, List.setIfInBounds_toArray, List.set_cons_zero, List.set_cons_succ]) ⟨Vals.none, NewS.none, (Below.refl _ _).drew⟩ ?_ ?_
    · simp only [List.take_succ_cons, List.take_zero, putAll, Nat.zero_add, Nat.reduceAdd, Act.put, List.setIfInBounds_toArray, List.set_cons_zero, List.set_cons_succ]
      refine FreeSteps.cons ?_ (FreeSteps.cons ?_ (FreeSteps.cons ?_ (FreeSteps.cons ?_ (FreeSteps.cons ?_ (FreeSteps.cons ?_ (FreeSteps.cons ?_ (FreeSteps.nil)))))))
      all_goals (refine FreeStep.fresh rfl ?_; rintro q V wq hr hu ⟨hVs, h6, hb⟩ K hK)
      · exact op_move (.tmp 3) rfl _ rfl (hK _ _ ⟨hVs.set rfl, h6.ne (by decide) (Below.refl _ _), hb⟩)
      · exact op_fieldAt 35 (.tmp 1) 5 rfl _ _ rfl (field_ent5 w.heap.size) (hK _ _ ⟨hVs.set rfl, h6.ne (by decide) (Below.refl _ _), hb⟩)
      · exact op_load_cell 3 (.tmp 39) rfl _ _ (hVs.get 1 (hr { on := 1, ground := .data } (by simp) rfl) rfl) (HCM.out wq hb) Tryd.isAgg3 (hK _ _ ⟨hVs.set rfl, h6.ne (by decide) (Below.refl _ _), hb⟩)
      · refine op_call Tryd.func73 rfl rfl rfl [.int .i64 (m : Int)] ((congrArg (fun x => [x]) (hVs.get 2 (hr { on := 2, ground := .data } (by simp) rfl) rfl))) (HNM.out wq) ?_
        rintro e w' ⟨rfl, hb'⟩
        exact ⟨_, rfl, (hK _ _ ⟨hVs.set rfl, h6.ne (by decide) hb', hb.trans (hb'.mono hb.size)⟩)⟩
      · exact op_fieldAt 35 (.tmp 1) 6 rfl _ _ rfl (field_ent6 w.heap.size) (hK _ _ ⟨hVs.set rfl, h6.ne (by decide) (Below.refl _ _), hb⟩)
      · exact op_load_cell 9 (.tmp 42) rfl _ _ (hVs.get 4 (hr { on := 4, ground := .data } (by simp) rfl) rfl) (HCY.out wq hb) Tryd.isAgg9 (hK _ _ ⟨hVs.set rfl, h6.ne (by decide) (Below.refl _ _), hb⟩)
      · exact op_build_strs 78 9 2 #[(0, .tmp 41), (1, .tmp 43)] rfl [(0, .string ⟨(numB m).toArray⟩), (1, .string ⟨e.pay.toArray⟩)] _ (by
            have v3 := (hVs.get 3 (hr { on := 3, ground := .data } (by simp) rfl) rfl)
            have v5 := (hVs.get 5 (hr { on := 5, ground := .data } (by simp) rfl) rfl)
            rw [List.map_toArray]
            show [((0 : Nat), V 3), (1, V 5)].toArray = _
            rw [v3, v5]) (built_strs2 _ _) (hK _ _ ⟨hVs.off rfl, .same, hb.alloc hb.size _⟩)
    rintro q V wq hall ⟨hVs, h6, hb⟩
    have v0 := hVs.get 0 (hall 0 (by decide)) rfl
    have v1 := hVs.get 1 (hall 1 (by decide)) rfl
    have v2 := hVs.get 2 (hall 2 (by decide)) rfl
    have v3 := hVs.get 3 (hall 3 (by decide)) rfl
    have v4 := hVs.get 4 (hall 4 (by decide)) rfl
    have v5 := hVs.get 5 (hall 5 (by decide)) rfl
    obtain ⟨g6, v6, hs6⟩ := h6 (hall 6 (by decide))
    simp only [List.take_succ_cons, List.take_zero, List.drop_succ_cons, List.drop_zero, putAll, Nat.zero_add, Nat.reduceAdd, v0, v1, v2, v3, v4, v5, v6, Act.put, List.setIfInBounds_toArray, List.set_cons_zero, List.set_cons_succ]
    clear hVs v0 v1 v2 v3 v4 v5 v6 hall
    obtain ⟨w5, hw5⟩ : ∃ x, x = wq := ⟨_, rfl⟩
    rw [← hw5] at hb hs6 ⊢
    clear hw5
    have HOn := Lib.hid (HO.out.below hb)
    have HB5 := Lib.hid (HB4.out.trans (hb.mono HB4.out.size))
    have HS := Lib.hid hs6
    clear hb hs6 HO HB4
    obtain ⟨NM, hNM⟩ : ∃ x, numB m = x := ⟨_, rfl⟩
    rw [hNM] at HS HZ HLN
    clear hNM
    refine wpList_push_strs rfl _ _ rfl w1.heap.size _ [N1] [NM, e.pay] (some ⟨g6, 0, none⟩) 2 2 rfl rfl HOn.out rfl HS.out (fun h => by cases h) (by simp) HB5.out.size ?_
    intro v6 w6 ho hb _
    obtain ⟨ao6, c6, rfl⟩ := ho.out.form
    have HO6 := Lib.hid ho.out
    have HB6 := Lib.hid (HB5.out.trans hb.out)
    clear ho hb HS HOn HB5
    have c0 : w6.cell? ⟨w.heap.size, 0, none⟩ = some (.int .i64 3) := by
      have h := (ent_cells HE.out.ok (HX.out.below HB6.out)).1
      rw [HK.out] at h
      exact h
    have HS6 := Lib.hid (strsAt_own HO6.out)
    go_wp2_with fail
    refine (rlistref_any ao6 c6 [N1, NM, e.pay] w6 HS6.out (by simp) (by have := HLN.out; omega)).mono ?_
    rintro r wa ⟨rfl, hb⟩
    have HBa := Lib.hid (HB6.out.trans (hb.mono HB6.out.size))
    clear hb
    go_wp2_with fail
    go_ret
    exact ⟨by rw [HZ.out]; rfl, HB.out.trans (HBa.out.mono HB.out.size)⟩
end Go.Proofs.YtpfhlhcnmeodbaaDoor
namespace Go.Proofs.YtpfhlhcnmeodbaaDoor
open Go.RowKit Go.BigFrame
theorem ref_num16 (n : Int) (w : World) (h2 : n ≤ 9223372036854775807) :
    Calls Tryd.prog 44 #[.int .i64 n] w fun e w' => e = .returned (.string ⟨(numB n.toNat).toArray⟩) ∧ Below w.heap.size w w' := by
  by_cases h0 : n < 0
  · have HN := Lib.hid (rnumref_any 0 w (by decide))
    have HE := Shut.mk (show n.toNat = 0 by omega)
    go_enter Tryd.func44, Tryd.ntmps44
    go_wp2_with fail
    refine HN.out.mono ?_
    rintro e w1 ⟨rfl, hb⟩
    have HB := Lib.hid hb
    clear hb
    go_wp2_with fail
    go_ret
    exact ⟨by rw [HE.out]; rfl, HB.out⟩
  · obtain ⟨m, rfl⟩ := Int.eq_ofNat_of_zero_le (show 0 ≤ n by omega)
    have HN := Lib.hid (rnumref_any m w (by omega))
    have hnl : ¬ (m : Int) < 0 := h0
    go_enter Tryd.func44, Tryd.ntmps44
    go_wp2_with fail
    refine HN.out.mono ?_
    rintro e w1 ⟨rfl, hb⟩
    have HB := Lib.hid hb
    clear hb
    go_wp2_with fail
    go_ret
    exact ⟨by rw [Int.toNat_natCast]; rfl, HB.out⟩
set_option maxHeartbeats 4000000 in
set_option maxRecDepth 100000 in
theorem ref_linkText (p : List Nat) (i : Int) (e : EntN) (hp : IdOk p) (hi : i ≤ 9223372036854775807) (he : e.Len) (hq : e.seq < 9223372036854775808) (w : World) :
    Calls Tryd.prog 37 #[.agg (nums .u8 p).toArray, .int .i64 i, .agg (entV e)] w fun r w' => r = .returned (.string ⟨(linkT p i e).toArray⟩) ∧ Below w.heap.size w w' := by
  have hx1 : Cells w.heap.size 24 (nums .u8 p).toArray (w.alloc (.cells (nums .u8 p).toArray 24)) := heap_alloc_new w _
  have hx2 : Cells (w.heap.size + 1) 35 (entV e) ((w.alloc (.cells (nums .u8 p).toArray 24)).alloc (.cells (entV e) 35)) := by
    have h := heap_alloc_new (w.alloc (.cells (nums .u8 p).toArray 24)) (.cells (entV e) 35)
    rw [World.size_alloc] at h
    exact h
  have hb : Below w.heap.size w ((w.alloc (.cells (nums .u8 p).toArray 24)).alloc (.cells (entV e) 35)) := ((Below.refl _ _).alloc (Nat.le_refl _) _).alloc (by rw [World.size_alloc]; exact Nat.le_succ _) _
  have HX1 := Lib.hid (hx1.alloc (.cells (entV e) 35))
  have HX2 := Lib.hid hx2
  have HB := Lib.hid hb
  have HE := Lib.hid he
  have HP := Lib.hid hp
  have HLEN := Lib.hid (linkT_len hp hi (e := e) ⟨he.ok, hq⟩)
  have HN := Lib.hid (fun w' => ref_num16 i w' hi)
  have HT := Lib.hid (fun w' => ref_text15 e he hq w')
  have HSE := Lib.hid (sizeEV he.ok)
  clear hx1 hx2 hb he hq hp
  go_enter Tryd.func37, Tryd.ntmps37
  go_upto_region 1 with (fail)
  obtain ⟨w1, hw1⟩ : ∃ x, x = (w.alloc (.cells (nums .u8 p).toArray 24)).alloc (.cells (entV e) 35) := ⟨_, rfl⟩
  rw [← hw1] at HX1 HX2 HB ⊢
  clear hw1
  have HC3 := Lib.hid (fun (w' : World) (q : Below w1.heap.size w1 w') => conv_mid (P := Tryd.prog) (src := 73) (dst := 9) (c := 32) Tryd.underlying73 Tryd.underlying5 Tryd.underlying9 HP.out.1.symm HP.out.2 (rangeAt_belowI (cells_range HX1.out) q HX1.out.lt))
  have HC4 := Lib.hid (fun (w' : World) (q : Below w1.heap.size w1 w') => HX2.out.below q)
  refine wp_region_class_tail (fun w' => Below w1.heap.size w1 w') 6 (by kernel_rfl) (by kernel_rfl) (Below.refl _ _).drew ?_
  simp only [List.take_succ_cons, List.take_zero, List.drop_succ_cons, List.drop_zero]
  repeat (first
    | (go_big_quiet_want; refine quiet_conv 73 9 _ rfl (.slice (some ⟨w.heap.size, 0, none⟩) 32 32) _ rfl HC3.out ?_; go_big_quiet_on; simp only [Act.put, List.setIfInBounds_toArray, List.set_cons_zero, List.set_cons_succ])
    | (go_big_quiet_want; refine quiet_load_cells 35 _ rfl (w.heap.size + 1) (entV e) 35 _ rfl HC4.out Tryd.underlying35 rfl HSE.out ?_; go_big_quiet_on; simp only [Act.put, List.setIfInBounds_toArray, List.set_cons_zero, List.set_cons_succ])
    | go_big_quiet_step ((intro hs'; first
        | (go_at_call 44; exact (HN.out _).mono fun e w' h => ⟨h.1, hs'.trans (h.2.mono hs'.size)⟩)
        | (go_at_call 64; exact (HT.out _).mono fun e w' h => ⟨h.1, hs'.trans (h.2.mono hs'.size)⟩)
        | rfl)))
  refine wpQuiet_nil ?_
  intro w2 hs2
  have HB2 := Lib.hid (HB.out.trans (hs2.mono HB.out.size))
  clear hs2 HX1 HX2 HB HC3 HC4 HN HT
  go_wp2_with fail
  refine (rlistref_any (some ⟨w2.heap.size, 0, none⟩) 4 [[108, 105, 110, 107], txt p, numB i.toNat, entB e] _ (at_four9 w2 _ _ _ _) (by simp) (by have := HLEN.out; rw [linkT] at this; omega)).mono ?_
  rintro e w3 ⟨rfl, hb⟩
  have HB3 := Lib.hid (HB2.out.trans (((Below.refl _ w2).alloc (Nat.le_refl _) _).trans (hb.mono (by simp)) |>.mono HB2.out.size))
  clear hb HB2
  go_wp2_with fail
  go_ret
  exact ⟨rfl, HB3.out⟩
set_option maxHeartbeats 4000000 in
set_option maxRecDepth 100000 in
theorem ref_link (p : List Nat) (i : Int) (e : EntN) (hp : IdOk p) (hi : i ≤ 9223372036854775807) (he : e.Len) (hq : e.seq < 9223372036854775808) (w : World) :
    Calls Tryd.prog 13 #[.agg (nums .u8 p).toArray, .int .i64 i, .agg (entV e)] w fun r w' => r = .returned (.agg (nums .u8 (linkN p i e)).toArray) ∧ Below w.heap.size w w' := by
  have hx1 : Cells w.heap.size 24 (nums .u8 p).toArray (((w.alloc (.cells (nums .u8 p).toArray 24)).alloc (.cells (entV e) 35)).alloc (.cells (nums .u8 zeroI).toArray 24)) := (Cells.alloc (heap_alloc_new w _) _).alloc _
  have hx2 : Cells (w.heap.size + 1) 35 (entV e) (((w.alloc (.cells (nums .u8 p).toArray 24)).alloc (.cells (entV e) 35)).alloc (.cells (nums .u8 zeroI).toArray 24)) := by
    have h := heap_alloc_new (w.alloc (.cells (nums .u8 p).toArray 24)) (.cells (entV e) 35)
    rw [World.size_alloc] at h
    exact Cells.alloc h _
  have hx3 : Cells (w.heap.size + 2) 24 (nums .u8 zeroI).toArray (((w.alloc (.cells (nums .u8 p).toArray 24)).alloc (.cells (entV e) 35)).alloc (.cells (nums .u8 zeroI).toArray 24)) := by
    have h := heap_alloc_new ((w.alloc (.cells (nums .u8 p).toArray 24)).alloc (.cells (entV e) 35)) (.cells (nums .u8 zeroI).toArray 24)
    rw [World.size_alloc, World.size_alloc] at h
    exact h
  have hb : Below w.heap.size w (((w.alloc (.cells (nums .u8 p).toArray 24)).alloc (.cells (entV e) 35)).alloc (.cells (nums .u8 zeroI).toArray 24)) := (((Below.refl _ _).alloc (Nat.le_refl _) _).alloc (by rw [World.size_alloc]; exact Nat.le_succ _) _).alloc (by rw [World.size_alloc, World.size_alloc]; omega) _
  have HX1 := Lib.hid hx1
  have HX2 := Lib.hid hx2
  have HX3 := Lib.hid hx3
  have HB := Lib.hid hb
  have HLEN := Lib.hid (linkT_len hp hi (e := e) ⟨he.ok, hq⟩)
  have HT := Lib.hid (fun w' => ref_linkText p i e hp hi he hq w')
  have HSE := Lib.hid (sizeEV he.ok)
  have HSP := Lib.hid (show (Tryd.prog.info? 24).map (·.size) = some p.length by rw [hp.1]; exact Tryd.sizeI)
  clear hx1 hx2 hx3 hb he hq hp
  go_enter Tryd.func13, Tryd.ntmps13
  go_upto_region 1 with (fail)
  change Code.wp _ _ _ _ (((w.alloc (.cells (nums .u8 p).toArray 24)).alloc (.cells (entV e) 35)).alloc (.cells (nums .u8 zeroI).toArray 24))
  obtain ⟨w1, hw1⟩ : ∃ x, x = (((w.alloc (.cells (nums .u8 p).toArray 24)).alloc (.cells (entV e) 35)).alloc (.cells (nums .u8 zeroI).toArray 24)) := ⟨_, rfl⟩
  rw [← hw1] at HX1 HX2 HX3 HB ⊢
  clear hw1
  go_wp2_with (first
    | (refine wpList_load_nums rfl 24 _ rfl w.heap.size .u8 p 24 _ rfl HX1.out Tryd.underlying24 rfl HSP.out ?_)
    | (refine wpList_load_cells rfl 35 _ rfl (w.heap.size + 1) (entV e) 35 _ rfl HX2.out Tryd.underlying35 rfl HSE.out ?_))
  refine (HT.out w1).mono ?_
  rintro r w2 ⟨rfl, hb⟩
  have HX3b := Lib.hid (HX3.out.below hb)
  have HB2 := Lib.hid (HB.out.trans (hb.mono HB.out.size))
  clear hb HX1 HX2 HX3 HB HT
  go_wp2_with fail
  refine (of_any _ w2 (by have := HLEN.out; omega)).mono ?_
  rintro r w3 ⟨rfl, hb⟩
  have HX3c := Lib.hid (HX3b.out.below hb)
  have HB3 := Lib.hid (HB2.out.trans (hb.mono HB2.out.size))
  clear hb HX3b HB2
  have hU0 := (linkN_ok p i e).1
  rw [linkN] at hU0
  obtain ⟨U, hU⟩ : ∃ U, shaN (linkT p i e) = U := ⟨_, rfl⟩
  have HUE := Shut.mk hU
  rw [hU] at hU0 ⊢
  have HI := Lib.hid (show (Tryd.prog.info? 24).map (·.size) = some U.length by rw [hU0]; exact Tryd.sizeI)
  have HL2 := Lib.hid (show zeroI.length = U.length by rw [hU0]; rfl)
  clear hU hU0
  go_wp2_with (refine wpList_store_nums rfl 24 _ _ rfl rfl (w.heap.size + 2) .u8 _ U 24 rfl rfl HX3c.out HI.out HL2.out ?_)
  intro w7 hc' hb'
  have HC7 := Lib.hid (show Blk (w.heap.size + 2) 24 .u8 U w7 from hc'.out)
  have HB7 := Lib.hid (show Below w.heap.size w w7 from But.toBelow HB3.out hb'.out (by omega) HB3.out.size)
  clear hc' hb'
  go_wp2_with fail
  exact bodyPost_ret (results_nums rfl _ _ (w.heap.size + 2) .u8 _ 24 _ rfl HC7.out Tryd.underlying24 rfl HI.out) rfl ⟨by rw [linkN, HUE.out], HB7.out⟩
end Go.Proofs.YtpfhlhcnmeodbaaDoor
namespace Go.Proofs.YtpfhlhcnmeodbaaDoor
open Go.RowKit Go.BigFrame
theorem strsG16 {ao : Option Addr} {l : List (List UInt8)} {w : World} (h : StrsAt ao l w) (h0 : l ≠ []) : ∃ g o, ao = some ⟨g, o, none⟩ ∧ g < w.heap.size ∧ ∀ i (hi : i < l.length), w.cell? ⟨g, o + i, none⟩ = some (.string ⟨l[i].toArray⟩) := by
  rcases h with h | ⟨b, o, ha, hb, hc⟩
  · exact absurd h h0
  · exact ⟨b, o, ha, hb, hc⟩
theorem index_str16 (b o n c j : Nat) (hj : j < n) (w : World) : (Instr.indexAt 78 (.slice (some ⟨b, o, none⟩) n c) (.int .i64 (j : Int))).run Tryd.prog w = .ok (.pointer (some ⟨b, o + j, none⟩)) w := by
  have h1 : (j : Int) < (n : Int) := by omega
  go_simp
end Go.Proofs.YtpfhlhcnmeodbaaDoor
