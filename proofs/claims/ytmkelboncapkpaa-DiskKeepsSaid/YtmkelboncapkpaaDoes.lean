/-
  A script's call on both disks: does.
-/
import Derived.Test.YtmkelboncapkpaaDuo
namespace Go.Proofs.Ytmkelboncapkpaa
open Go.RowKit Go.BigFrame

/-- The document's field 'Off' is cleared. -/
theorem RefIs.on {O : Nat → Prop} {g : Nat} {s : DS} {w : World} (h : RefIs O (.pointer (some ⟨g, 0, none⟩)) s w) : RefIs O (.pointer (some ⟨g, 0, none⟩)) (onS s) (w.setCell ⟨g, 3, none⟩ (.bool false)) ∧ Turn O O w (w.setCell ⟨g, 3, none⟩ (.bool false)) ∧ (∃ v, w.cell? ⟨g, 3, none⟩ = some v) ∧ w.frozen? ⟨g, 3, none⟩ = false := by
  obtain ⟨g', vS, vA, vD, hg, rfl, h⟩ := h
  simp only [Value.pointer.injEq, Option.some.injEq, Addr.mk.injEq, and_true] at hg
  subst hg
  exact ⟨⟨g, vS, vA, vD, rfl, rfl, h.fields ((But.refl g w).setCell 3 _) (h.cells.set 3 _)⟩, ⟨(Only.refl _ w).setCell 3 _ (.inl (.inl rfl)), fun b hb => .inl hb⟩, ⟨_, h.field 3⟩, h.cells.frozen 3⟩
/-- .. 'Fuse' and 'Keep' are set. -/
theorem RefIs.arm {O : Nat → Prop} {g : Nat} {s : DS} {w : World} (h : RefIs O (.pointer (some ⟨g, 0, none⟩)) s w) (n : Int) (keep : Nat) : RefIs O (.pointer (some ⟨g, 0, none⟩)) (armS s n keep) ((w.setCell ⟨g, 5, none⟩ (.int .i64 ((n.toNat : Nat) : Int))).setCell ⟨g, 6, none⟩ (.int .u64 (keep : Int))) ∧
    Turn O O w ((w.setCell ⟨g, 5, none⟩ (.int .i64 ((n.toNat : Nat) : Int))).setCell ⟨g, 6, none⟩ (.int .u64 (keep : Int))) ∧ (∃ v, w.cell? ⟨g, 5, none⟩ = some v) ∧ w.frozen? ⟨g, 5, none⟩ = false ∧ (∃ v, w.cell? ⟨g, 6, none⟩ = some v) ∧ w.frozen? ⟨g, 6, none⟩ = false := by
  obtain ⟨g', vS, vA, vD, hg, rfl, h⟩ := h
  simp only [Value.pointer.injEq, Option.some.injEq, Addr.mk.injEq, and_true] at hg
  subst hg
  exact ⟨⟨g, vS, vA, vD, rfl, rfl, h.fields (((But.refl g w).setCell 5 _).setCell 6 _) ((h.cells.set 5 _).set 6 _)⟩, ⟨((Only.refl _ w).setCell 5 _ (.inl (.inl rfl))).setCell 6 _ (.inl (.inl rfl)), fun b hb => .inl hb⟩, ⟨_, h.field 5⟩, h.cells.frozen 5, ⟨_, h.field 6⟩, h.cells.frozen 6⟩
theorem RefIs.form {O : Nat → Prop} {v : Value} {s : DS} {w : World} (h : RefIs O v s w) : ∃ g, v = .pointer (some ⟨g, 0, none⟩) := by
  obtain ⟨g, _, _, _, hv, _⟩ := h
  exact ⟨g, hv⟩

set_option maxHeartbeats 4000000 in
set_option maxRecDepth 100000 in
theorem does_any (Od Om : Nat → Prop) (vd vm : Value) (s : DS) (c : CallN) (bo : Option Addr) (bc n : Nat) (w : World) (h : Duo Od Om vd vm s s w) (hf : Fit s n) (hn : n ≤ 900000) (hb : NumsAt bo .u8 (byteNs c.b) w) (hbo : byteNs c.b ≠ [] → ∀ a, bo = some a → ¬ U Od Om a.block) (hbl : c.b.length ≤ 1000000)
    (a0 : -9223372036854775808 ≤ c.at') (a1 : c.at' ≤ 9223372036854775807) (hk : c.keep < 18446744073709551616) :
    Calls Try.prog 11 #[vd, vm, .agg (callV c bo bc)] w fun e w' => e = .returned (.bool true) ∧ ∃ Od' Om', Duo Od' Om' vd vm (stepS s c) (stepS s c) w' ∧ Turn (U Od Om) (U Od' Om') w w' := by
  obtain ⟨gm, rfl⟩ := h.m.form
  obtain ⟨ad, hvd⟩ := h.d.ptr
  subst hvd
  have hb1 : Below w.heap.size w (w.alloc (.cells (callV c bo bc) 32)) := (Below.refl _ _).alloc (Nat.le_refl _) _
  have HD := Lib.hid (h.below hb1)
  have HNB := Lib.hid (hb.below hb1)
  have HC := Lib.hid (show Cells w.heap.size 32 (callV c bo bc) (w.alloc (.cells (callV c bo bc) 32)) from heap_alloc_new w _)
  have HFR := Lib.hid (show ¬ U Od Om w.heap.size from fun e => by have := h.lt e; omega)
  have HT := Lib.hid (show Turn (U Od Om) (U Od Om) w (w.alloc (.cells (callV c bo bc) 32)) from Turn.of hb1)
  have HF := Lib.hid hf
  have HBO := Lib.hid hbo
  have HK := Lib.hid hk
  have HBL := Lib.hid hbl
  clear h hf hb hbo hb1 hk hbl
  go_enter Try.func11, Try.ntmps11
  go_upto_region 1 with (fail)
  obtain ⟨w1, hw1⟩ : ∃ x, x = w.alloc (.cells (callV c bo bc) 32) := ⟨_, rfl⟩
  rw [← hw1] at HD HNB HC HT ⊢
  obtain ⟨gc, hgc⟩ : ∃ g, g = w.heap.size := ⟨_, rfl⟩
  rw [← hgc] at HC HFR ⊢
  clear hw1 hgc
  have k0 : w1.cell? ⟨gc, 0, none⟩ = some (.int .i64 c.kind) := HC.out.at 0
  by_cases h0 : c.kind = 0
  · have HS := Shut.mk (show stepS s c = writeS s c.at' c.b by rw [stepS, if_pos h0])
    have e0 : (c.kind == 0) = true := by simp; omega
    obtain ⟨E, hE⟩ : ∃ E, writeE s c.at' c.b = E := ⟨_, rfl⟩
    have HE := Shut.mk hE
    have HEQ := Lib.hid (show ∀ w, (binOp .eql 37 (.int .i64 (E : Nat)) (.int .i64 (E : Nat))).run Try.prog w = .ok (.bool true) w from fun w => by go_simp)
    have HF1 := Lib.hid (show ∀ w, (Instr.fieldAt 32 (.pointer (some ⟨gc, 0, none⟩)) 1).run Try.prog w = .ok (.pointer (some ⟨gc, 1, none⟩)) w from fun w => by go_simp)
    have HF2 := Lib.hid (show ∀ w, (Instr.fieldAt 32 (.pointer (some ⟨gc, 0, none⟩)) 2).run Try.prog w = .ok (.pointer (some ⟨gc, 2, none⟩)) w from fun w => by go_simp)
    clear h0 hE
    go_upto_region 3 with (fail)
    refine wp_region_free 13 (fun q V w' => Val q V 0 (.pointer (some ad)) ∧ Val q V 1 (.pointer (some ⟨gc, 1, none⟩)) ∧ Val q V 2 (.int .i64 c.at') ∧ Val q V 3 (.pointer (some ⟨gc, 2, none⟩)) ∧ Val q V 4 (.slice bo c.b.length bc) ∧ Val q V 5 (.int .i64 (E : Nat)) ∧ Val q V 6 (.pointer (some ⟨gm, 0, none⟩)) ∧ Val q V 7 (.pointer (some ⟨gc, 1, none⟩)) ∧ Val q V 8 (.int .i64 c.at') ∧ Val q V 9 (.pointer (some ⟨gc, 2, none⟩)) ∧ Val q V 10 (.slice bo c.b.length bc) ∧ Val q V 11 (.int .i64 (E : Nat)) ∧ Val q V 12 (.bool true) ∧ Seq2 5 11 (fun w' => Cells gc 32 (callV c bo bc) w' ∧ NumsAt bo .u8 (byteNs c.b) w') (fun w' => Duo Od Om (.pointer (some ad)) (.pointer (some ⟨gm, 0, none⟩)) s s w' ∧ Turn (U Od Om) (U Od Om) w1 w') (fun w' => ∃ Od', Duo Od' Om (.pointer (some ad)) (.pointer (some ⟨gm, 0, none⟩)) (writeS s c.at' c.b) s w' ∧ Turn (U Od Om) (U Od' Om) w1 w') (fun w' => ∃ Od' Om', Duo Od' Om' (.pointer (some ad)) (.pointer (some ⟨gm, 0, none⟩)) (writeS s c.at' c.b) (writeS s c.at' c.b) w' ∧ Turn (U Od Om) (U Od' Om') w1 w') q w') (fun _ => undef) (by kernel_rfl) (by kernel_rfl) (by kernel_rfl) (by simp only [List.take_succ_cons, List.take_zero, putAll, Act.put, List.setIfInBounds_toArray, List.set_cons_zero, List.set_cons_succ]) ⟨Val.none, Val.none, Val.none, Val.none, Val.none, Val.none, Val.none, Val.none, Val.none, Val.none, Val.none, Val.none, Val.none, Seq2.none ⟨HC.out.below (Below.refl _ _).drew, HNB.out.below (Below.refl _ _).drew⟩ ⟨HD.out.below (Below.refl _ _).drew, Turn.of (Below.refl _ _).drew⟩⟩ ?_ ?_
    · simp only [List.take_succ_cons, List.take_zero, putAll, Nat.zero_add, Nat.reduceAdd, Act.put, List.setIfInBounds_toArray, List.set_cons_zero, List.set_cons_succ]
      refine FreeSteps.cons ?_ (FreeSteps.cons ?_ (FreeSteps.cons ?_ (FreeSteps.cons ?_ (FreeSteps.cons ?_ (FreeSteps.cons ?_ (FreeSteps.cons ?_ (FreeSteps.cons ?_ (FreeSteps.cons ?_ (FreeSteps.cons ?_ (FreeSteps.cons ?_ (FreeSteps.cons ?_ (FreeSteps.cons ?_ FreeSteps.nil))))))))))))
      all_goals (refine FreeStep.fresh rfl ?_; rintro q V wq hr hu ⟨h0, h1, h2, h3, h4, h5, h6, h7, h8, h9, h10, h11, h12, hq⟩ K hK)
      · exact op_move (.tmp 0) rfl _ rfl (hK _ _ ⟨.same, h1.ne (by decide), h2.ne (by decide), h3.ne (by decide), h4.ne (by decide), h5.ne (by decide), h6.ne (by decide), h7.ne (by decide), h8.ne (by decide), h9.ne (by decide), h10.ne (by decide), h11.ne (by decide), h12.ne (by decide), hq.ne (by decide) (by decide)⟩)
      · exact op_fieldAt 32 (.tmp 5) 1 rfl _ _ rfl HF1.out (hK _ _ ⟨h0.ne (by decide), .same, h2.ne (by decide), h3.ne (by decide), h4.ne (by decide), h5.ne (by decide), h6.ne (by decide), h7.ne (by decide), h8.ne (by decide), h9.ne (by decide), h10.ne (by decide), h11.ne (by decide), h12.ne (by decide), hq.ne (by decide) (by decide)⟩)
      · exact op_load_cell 3 (.tmp 15) rfl _ _ (h1 (hr { on := 1, ground := .data } (by simp) rfl)) (hq.always.1.at 1) Try.isAgg3 (hK _ _ ⟨h0.ne (by decide), h1.ne (by decide), .same, h3.ne (by decide), h4.ne (by decide), h5.ne (by decide), h6.ne (by decide), h7.ne (by decide), h8.ne (by decide), h9.ne (by decide), h10.ne (by decide), h11.ne (by decide), h12.ne (by decide), hq.ne (by decide) (by decide)⟩)
      · exact op_fieldAt 32 (.tmp 5) 2 rfl _ _ rfl HF2.out (hK _ _ ⟨h0.ne (by decide), h1.ne (by decide), h2.ne (by decide), .same, h4.ne (by decide), h5.ne (by decide), h6.ne (by decide), h7.ne (by decide), h8.ne (by decide), h9.ne (by decide), h10.ne (by decide), h11.ne (by decide), h12.ne (by decide), hq.ne (by decide) (by decide)⟩)
      · exact op_load_cell 29 (.tmp 17) rfl _ _ (h3 (hr { on := 3, ground := .data } (by simp) rfl)) (hq.always.1.at 2) Try.isAgg29 (hK _ _ ⟨h0.ne (by decide), h1.ne (by decide), h2.ne (by decide), h3.ne (by decide), .same, h5.ne (by decide), h6.ne (by decide), h7.ne (by decide), h8.ne (by decide), h9.ne (by decide), h10.ne (by decide), h11.ne (by decide), h12.ne (by decide), hq.ne (by decide) (by decide)⟩)
      · obtain ⟨hduo, htu⟩ := hq.m0 hu
        refine op_call Try.func17 rfl rfl rfl [.pointer (some ad), .int .i64 c.at', .slice bo c.b.length bc] (cons_eq (h0 (hr { on := 0, ground := .data } (by simp) rfl)) (cons_eq (h2 (hr { on := 2, ground := .data } (by simp) rfl)) (cons_eq (h4 (hr { on := 4, ground := .data } (by simp) rfl)) rfl))) (dev7_write Od _ s c.at' c.b bo bc wq hduo.d (HF.out.mono (by omega)) hq.always.2 (fun hne a ha e => HBO.out hne a ha (.inl e)) HBL.out) ?_
        rintro e w' ⟨rfl, Od', hd', ht'⟩
        exact ⟨_, by rw [HE.out], hK _ _ ⟨h0.ne (by decide), h1.ne (by decide), h2.ne (by decide), h3.ne (by decide), h4.ne (by decide), .same, h6.ne (by decide), h7.ne (by decide), h8.ne (by decide), h9.ne (by decide), h10.ne (by decide), h11.ne (by decide), h12.ne (by decide), hq.first hu (by decide) ⟨hq.always.1.only ht'.only (fun e => HFR.out (.inl e)), hq.always.2.only ht'.only (fun hne a ha e => HBO.out hne a ha (.inl e))⟩ ⟨Od', hduo.dev hd' ht', htu.trans ht'.left⟩⟩⟩
      · exact op_move (.tmp 1) rfl _ rfl (hK _ _ ⟨h0.ne (by decide), h1.ne (by decide), h2.ne (by decide), h3.ne (by decide), h4.ne (by decide), h5.ne (by decide), .same, h7.ne (by decide), h8.ne (by decide), h9.ne (by decide), h10.ne (by decide), h11.ne (by decide), h12.ne (by decide), hq.ne (by decide) (by decide)⟩)
      · exact op_fieldAt 32 (.tmp 5) 1 rfl _ _ rfl HF1.out (hK _ _ ⟨h0.ne (by decide), h1.ne (by decide), h2.ne (by decide), h3.ne (by decide), h4.ne (by decide), h5.ne (by decide), h6.ne (by decide), .same, h8.ne (by decide), h9.ne (by decide), h10.ne (by decide), h11.ne (by decide), h12.ne (by decide), hq.ne (by decide) (by decide)⟩)
      · exact op_load_cell 3 (.tmp 21) rfl _ _ (h7 (hr { on := 7, ground := .data } (by simp) rfl)) (hq.always.1.at 1) Try.isAgg3 (hK _ _ ⟨h0.ne (by decide), h1.ne (by decide), h2.ne (by decide), h3.ne (by decide), h4.ne (by decide), h5.ne (by decide), h6.ne (by decide), h7.ne (by decide), .same, h9.ne (by decide), h10.ne (by decide), h11.ne (by decide), h12.ne (by decide), hq.ne (by decide) (by decide)⟩)
      · exact op_fieldAt 32 (.tmp 5) 2 rfl _ _ rfl HF2.out (hK _ _ ⟨h0.ne (by decide), h1.ne (by decide), h2.ne (by decide), h3.ne (by decide), h4.ne (by decide), h5.ne (by decide), h6.ne (by decide), h7.ne (by decide), h8.ne (by decide), .same, h10.ne (by decide), h11.ne (by decide), h12.ne (by decide), hq.ne (by decide) (by decide)⟩)
      · exact op_load_cell 29 (.tmp 23) rfl _ _ (h9 (hr { on := 9, ground := .data } (by simp) rfl)) (hq.always.1.at 2) Try.isAgg29 (hK _ _ ⟨h0.ne (by decide), h1.ne (by decide), h2.ne (by decide), h3.ne (by decide), h4.ne (by decide), h5.ne (by decide), h6.ne (by decide), h7.ne (by decide), h8.ne (by decide), h9.ne (by decide), .same, h11.ne (by decide), h12.ne (by decide), hq.ne (by decide) (by decide)⟩)
      · have hs5 := hr { on := 5, ground := .chain } (by simp) rfl
        obtain ⟨Od', hduo, htu⟩ := hq.m1 hs5 hu
        refine op_call Try.func24 rfl rfl rfl [.pointer (some ⟨gm, 0, none⟩), .int .i64 c.at', .slice bo c.b.length bc] (cons_eq (h6 (hr { on := 6, ground := .data } (by simp) rfl)) (cons_eq (h8 (hr { on := 8, ground := .data } (by simp) rfl)) (cons_eq (h10 (hr { on := 10, ground := .data } (by simp) rfl)) rfl))) (hduo.m.write HF.out (by omega) c.at' c.b bo bc hq.always.2 (fun hne a ha e => HBO.out hne a ha (.inr e)) HBL.out) ?_
        rintro e w' ⟨rfl, Om', hm', ht'⟩
        exact ⟨_, by rw [HE.out], hK _ _ ⟨h0.ne (by decide), h1.ne (by decide), h2.ne (by decide), h3.ne (by decide), h4.ne (by decide), h5.ne (by decide), h6.ne (by decide), h7.ne (by decide), h8.ne (by decide), h9.ne (by decide), h10.ne (by decide), .same, h12.ne (by decide), Seq2.second hs5 ⟨hq.always.1.only ht'.only (fun e => HFR.out (.inr e)), hq.always.2.only ht'.only (fun hne a ha e => HBO.out hne a ha (.inr e))⟩ ⟨Od', Om', hduo.ref hm' ht', htu.trans ht'.right⟩⟩⟩
      · exact op_eqlv 37 37 (.tmp 19) (.tmp 25) rfl _ _ true (h5 (hr { on := 5, ground := .data } (by simp) rfl)) (h11 (hr { on := 11, ground := .data } (by simp) rfl)) (fun w => rfl) HEQ.out (hK _ _ ⟨h0.ne (by decide), h1.ne (by decide), h2.ne (by decide), h3.ne (by decide), h4.ne (by decide), h5.ne (by decide), h6.ne (by decide), h7.ne (by decide), h8.ne (by decide), h9.ne (by decide), h10.ne (by decide), h11.ne (by decide), .same, hq.ne (by decide) (by decide)⟩)
    rintro q V w4 hall ⟨h0, h1, h2, h3, h4, h5, h6, h7, h8, h9, h10, h11, h12, hq⟩
    have v0 := h0 (hall 0 (by decide))
    have v1 := h1 (hall 1 (by decide))
    have v2 := h2 (hall 2 (by decide))
    have v3 := h3 (hall 3 (by decide))
    have v4 := h4 (hall 4 (by decide))
    have v5 := h5 (hall 5 (by decide))
    have v6 := h6 (hall 6 (by decide))
    have v7 := h7 (hall 7 (by decide))
    have v8 := h8 (hall 8 (by decide))
    have v9 := h9 (hall 9 (by decide))
    have v10 := h10 (hall 10 (by decide))
    have v11 := h11 (hall 11 (by decide))
    have v12 := h12 (hall 12 (by decide))
    obtain ⟨Od', Om', hduo, htu⟩ := hq.m2 (hall 11 (by decide))
    simp only [List.take_succ_cons, List.take_zero, List.drop_succ_cons, List.drop_zero, putAll, Nat.zero_add, Nat.reduceAdd, v0, v1, v2, v3, v4, v5, v6, v7, v8, v9, v10, v11, v12, Act.put, List.setIfInBounds_toArray, List.set_cons_zero, List.set_cons_succ]
    have HD4 := Lib.hid hduo
    have HT4 := Lib.hid (HT.out.trans htu)
    clear h0 h1 h2 h3 h4 h5 h6 h7 h8 h9 h10 h11 h12 v0 v1 v2 v3 v4 v5 v6 v7 v8 v9 v10 v11 v12 hq hall hduo htu HD HT HC HNB k0
    go_wp2_with fail
    go_ret
    exact ⟨rfl, Od', Om', by rw [HS.out]; exact HD4.out, HT4.out⟩
  · by_cases h1 : c.kind = 1
    · have HS := Shut.mk (show stepS s c = s by rw [stepS, if_neg h0, if_pos h1])
      have e0 : (c.kind == 0) = false := by simp; omega
      have e1 : (c.kind == 1) = true := by simp; omega
      have k1 : w1.cell? ⟨gc, 1, none⟩ = some (.int .i64 c.at') := HC.out.at 1
      clear h0 h1
      go_wp2_with fail
      refine (dev7_read Od _ s c.at' w1 HD.out.d (HF.out.mono (by omega))).mono ?_
      rintro e w2 ⟨⟨ao, co, rfl, hnb⟩, hb2⟩
      have HD2 := Lib.hid (HD.out.below hb2)
      have HT2 := Lib.hid (HT.out.below hb2)
      have hc2 := HC.out.below hb2
      have HX2 := Lib.hid hnb.nums
      have k12 : w2.cell? ⟨gc, 1, none⟩ = some (.int .i64 c.at') := hc2.at 1
      have HC2 := Lib.hid hc2
      clear hb2 hnb HD HT HC k0 k1 hc2
      go_wp2_with fail
      refine (HD2.out.m.why c.at').mono ?_
      rintro e w3 ⟨rfl, rfl⟩
      by_cases hy : whyS s c.at' = 0
      · obtain ⟨y0, y1, y2⟩ := whyS_zero hy
        have HRB := Shut.mk (show readB s c.at' = readS s c.at'.toNat by rw [readB, if_pos hy])
        have hat : c.at' = ((c.at'.toNat : Nat) : Int) := by omega
        have HRD := Lib.hid (fun (w' : World) (h : Below w3.heap.size w3 w') => (HD2.out.m.below h).read HF.out (by omega) c.at'.toNat y1)
        rw [← hat] at HRD
        rw [HRB.out] at HX2
        rw [HRB.out, hy]
        obtain ⟨Z, hZ⟩ : ∃ Z, readS s c.at'.toNat = Z := ⟨_, rfl⟩
        rw [hZ] at HX2 HRD ⊢
        have HCV := Lib.hid (fun (w' : World) (h : Below w3.heap.size w3 w') => conv_in (P := Try.prog) Try.underlying29 Try.underlying5 Try.underlying9 (c := co) (HX2.out.below h))
        have HK1 := Lib.hid (fun (w' : World) (h : Below w3.heap.size w3 w') => show w'.cell? ⟨gc, 1, none⟩ = some (.int .i64 c.at') from (HC2.out.below h).at 1)
        clear hat hy y0 y1 y2 hZ k12
        go_upto_region 7 with (fail)
        refine wp_region_class (fun w' => Below w3.heap.size w3 w') (by kernel_rfl) (by kernel_rfl) (Below.refl _ _).drew ?_
        repeat (first
          | go_big_quiet_skip
          | (go_big_quiet_want; refine quiet_load_cell 3 _ rfl ⟨gc, 1, none⟩ _ rfl HK1.out Try.isAgg3 ?_; go_big_quiet_on; simp only [Act.put, List.setIfInBounds_toArray, List.set_cons_zero, List.set_cons_succ])
          | (go_big_quiet_want; refine quiet_conv 29 9 _ rfl _ _ rfl HCV.out ?_; go_big_quiet_on; simp only [Act.put, List.setIfInBounds_toArray, List.set_cons_zero, List.set_cons_succ])
          | go_big_quiet_step ((intro hs'; first
              | rfl
              | (go_at_call 26; exact (HRD.out _ hs').mono fun e w' h => ⟨h.1, by rw [h.2]; exact hs'⟩))))
        refine wpQuiet_nil ?_
        intro w4 hs4
        have HD4 := Lib.hid (HD2.out.below hs4)
        have HT4 := Lib.hid (HT2.out.below hs4)
        clear hs4 HD2 HT2 HRD HCV HK1 HX2 HC2
        go_wp2_with fail
        go_ret
        exact ⟨rfl, Od, Om, by rw [HS.out]; exact HD4.out, HT4.out⟩
      · have HRB := Shut.mk (show readB s c.at' = [] by rw [readB, if_neg hy])
        rw [HRB.out]
        have hyn : (((whyS s c.at' : Nat) : Int) != 0) = true := by simp; omega
        obtain ⟨y, hye⟩ : ∃ y, whyS s c.at' = y := ⟨_, rfl⟩
        rw [hye] at hyn ⊢
        clear hy hye k12 HX2
        go_upto_region 7 with (fail)
        refine wp_region_class (fun w' => Below w3.heap.size w3 w') (by kernel_rfl) (by kernel_rfl) (Below.refl _ _).drew ?_
        repeat (first
          | go_big_quiet_skip
          | go_big_quiet_step ((intro hs'; rfl)))
        refine wpQuiet_nil ?_
        intro w4 hs4
        have HD4 := Lib.hid (HD2.out.below hs4)
        have HT4 := Lib.hid (HT2.out.below hs4)
        clear hs4 HD2 HT2 HC2
        go_wp2_with fail
        go_ret
        exact ⟨rfl, Od, Om, by rw [HS.out]; exact HD4.out, HT4.out⟩
    · by_cases h2 : c.kind = 2
      · have HS := Shut.mk (show stepS s c = syncS s by rw [stepS, if_neg h0, if_neg h1, if_pos h2])
        have e0 : (c.kind == 0) = false := by simp; omega
        have e1 : (c.kind == 1) = false := by simp; omega
        have e2 : (c.kind == 2) = true := by simp; omega
        clear h0 h1 h2
        go_wp2_with fail
        refine (dev7_sync Od _ s w1 HD.out.d (HF.out.mono (by omega))).mono ?_
        rintro e w2 ⟨rfl, Od', hd2, ht2⟩
        have HD2 := Lib.hid (HD.out.dev hd2 ht2)
        have HT2 := Lib.hid (HT.out.trans ht2.left)
        clear hd2 ht2 HD HT
        go_wp2_with fail
        refine (HD2.out.m.sync HF.out (by omega)).mono ?_
        rintro e w3 ⟨rfl, Om', hm3, ht3⟩
        have HD3 := Lib.hid (HD2.out.ref hm3 ht3)
        have HT3 := Lib.hid (HT2.out.trans ht3.right)
        clear hm3 ht3 HD2 HT2
        go_wp2_with fail
        go_ret
        exact ⟨by simp, Od', Om', by rw [HS.out]; exact HD3.out, HT3.out⟩
      · by_cases h3 : c.kind = 3
        · have HS := Shut.mk (show stepS s c = goneS s c.keep by rw [stepS, if_neg h0, if_neg h1, if_neg h2, if_pos h3])
          have e0 : (c.kind == 0) = false := by simp; omega
          have e1 : (c.kind == 1) = false := by simp; omega
          have e2 : (c.kind == 2) = false := by simp; omega
          have e3 : (c.kind == 3) = true := by simp; omega
          have k3 : w1.cell? ⟨gc, 3, none⟩ = some (.int .u64 c.keep) := HC.out.at 3
          clear h0 h1 h2 h3
          go_wp2_with fail
          refine (dev7_off Od _ s c.keep w1 HD.out.d (HF.out.mono (by omega)) HK.out).mono ?_
          rintro e w2 ⟨rfl, Od', hd2, ht2⟩
          have HD2 := Lib.hid (HD.out.dev hd2 ht2)
          have HT2 := Lib.hid (HT.out.trans ht2.left)
          have k32 : w2.cell? ⟨gc, 3, none⟩ = some (.int .u64 c.keep) := (HC.out.only ht2.only (fun e => HFR.out (.inl e))).at 3
          clear hd2 ht2 HD HT k3 k0
          go_wp2_with fail
          refine (HD2.out.m.gone HF.out (by omega) c.keep HK.out).mono ?_
          rintro e w3 ⟨rfl, Om', hm3, ht3⟩
          have HD3 := Lib.hid (HD2.out.ref hm3 ht3)
          have HT3 := Lib.hid (HT2.out.trans ht3.right)
          clear hm3 ht3 HD2 HT2 k32
          go_wp2_with fail
          go_ret
          exact ⟨rfl, Od', Om', by rw [HS.out]; exact HD3.out, HT3.out⟩
        · by_cases h4 : c.kind = 4
          · have HS := Shut.mk (show stepS s c = onS s by rw [stepS, if_neg h0, if_neg h1, if_neg h2, if_neg h3, if_pos h4])
            have e0 : (c.kind == 0) = false := by simp; omega
            have e1 : (c.kind == 1) = false := by simp; omega
            have e2 : (c.kind == 2) = false := by simp; omega
            have e3 : (c.kind == 3) = false := by simp; omega
            have e4 : (c.kind == 4) = true := by simp; omega
            clear h0 h1 h2 h3 h4
            go_wp2_with fail
            refine (dev7_on Od _ s w1 HD.out.d (HF.out.mono (by omega))).mono ?_
            rintro e w2 ⟨rfl, Od', hd2, ht2⟩
            have HD2 := Lib.hid (HD.out.dev hd2 ht2)
            have HT2 := Lib.hid (HT.out.trans ht2.left)
            obtain ⟨hm3, ht3, ⟨u3, c3⟩, f3⟩ := HD2.out.m.on
            have HD3 := Lib.hid (HD2.out.ref hm3 ht3)
            have HT3 := Lib.hid (HT2.out.trans ht3.right)
            clear hd2 ht2 HD HT hm3 ht3 k0
            go_wp2_with fail
            go_ret
            exact ⟨rfl, Od', Om, by rw [HS.out]; exact HD3.out, HT3.out⟩
          · by_cases h5 : c.kind = 5
            · have HS := Shut.mk (show stepS s c = armS s c.at' c.keep by rw [stepS, if_neg h0, if_neg h1, if_neg h2, if_neg h3, if_neg h4, if_pos h5])
              have e0 : (c.kind == 0) = false := by simp; omega
              have e1 : (c.kind == 1) = false := by simp; omega
              have e2 : (c.kind == 2) = false := by simp; omega
              have e3 : (c.kind == 3) = false := by simp; omega
              have e4 : (c.kind == 4) = false := by simp; omega
              have e5 : (c.kind == 5) = true := by simp; omega
              have k1 : w1.cell? ⟨gc, 1, none⟩ = some (.int .i64 c.at') := HC.out.at 1
              have k3 : w1.cell? ⟨gc, 3, none⟩ = some (.int .u64 c.keep) := HC.out.at 3
              clear h0 h1 h2 h3 h4 h5
              go_wp2_with fail
              refine (dev7_arm Od _ s c.at' c.keep w1 HD.out.d (HF.out.mono (by omega)) a1 HK.out).mono ?_
              rintro e w2 ⟨rfl, Od', hd2, ht2⟩
              have HD2 := Lib.hid (HD.out.dev hd2 ht2)
              have HT2 := Lib.hid (HT.out.trans ht2.left)
              have hc2 := HC.out.only ht2.only (fun e => HFR.out (.inl e))
              have k12 : w2.cell? ⟨gc, 1, none⟩ = some (.int .i64 c.at') := hc2.at 1
              have k32 : w2.cell? ⟨gc, 3, none⟩ = some (.int .u64 c.keep) := hc2.at 3
              obtain ⟨hm3, ht3, ⟨u3, c3⟩, f3, ⟨u6, c6⟩, f6⟩ := HD2.out.m.arm c.at' c.keep
              have HD3 := Lib.hid (HD2.out.ref hm3 ht3)
              have HT3 := Lib.hid (HT2.out.trans ht3.right)
              have hmax : max c.at' 0 = ((c.at'.toNat : Nat) : Int) := by omega
              have hgg : gc ≠ gm := fun e => HFR.out (.inr (by
                obtain ⟨g', vS, vA, vD, hg, hO, h⟩ := HD.out.m
                simp only [Value.pointer.injEq, Option.some.injEq, Addr.mk.injEq, and_true] at hg
                rw [hO, e, hg]
                exact .inl rfl))
              clear hd2 ht2 HT hm3 ht3 k0 k1 k3 hc2 HD hmax
              by_cases hneg : c.at' < 0
              · have hz : ((c.at'.toNat : Nat) : Int) = 0 := by omega
                rw [hz] at HD3 HT3
                clear hz
                go_wp2_with fail
                go_ret
                exact ⟨rfl, Od', Om, by rw [HS.out]; exact HD3.out, HT3.out⟩
              · have hz : ((c.at'.toNat : Nat) : Int) = c.at' := by omega
                rw [hz] at HD3 HT3
                clear hz
                go_wp2_with fail
                go_ret
                exact ⟨rfl, Od', Om, by rw [HS.out]; exact HD3.out, HT3.out⟩
            · have HS := Shut.mk (show stepS s c = s by rw [stepS, if_neg h0, if_neg h1, if_neg h2, if_neg h3, if_neg h4, if_neg h5])
              have e0 : (c.kind == 0) = false := by simp; omega
              have e1 : (c.kind == 1) = false := by simp; omega
              have e2 : (c.kind == 2) = false := by simp; omega
              have e3 : (c.kind == 3) = false := by simp; omega
              have e4 : (c.kind == 4) = false := by simp; omega
              have e5 : (c.kind == 5) = false := by simp; omega
              clear h0 h1 h2 h3 h4 h5
              go_wp2_with fail
              go_ret
              exact ⟨rfl, Od, Om, by rw [HS.out]; exact HD.out, HT.out⟩
end Go.Proofs.Ytmkelboncapkpaa
