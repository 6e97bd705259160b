/-
  Joined: The developers' knows. Written by dag/gen/gen_know.py.; The developers' depth and fits.; A row behind a name grows, in a map: what holds while the statement's operations come up in whatever order.
-/
import Derived.Test.YtandadfphlandaaGreatDoorJ08
import Derived.Test.YtandadfphlandaaGreatDoorJ14
namespace Go.Proofs.YtandadfphlandaaGreatDoor
open Go.RowKit Go.BigFrame
theorem ents_look {X : Nat → Prop} {L : List OpN} {E : List (List Nat × Value)} {w : World} (h : EntsO X L E w) (hd : (E.map (·.1)).Nodup) (hr : ∀ x ∈ L, x.d.ref.length = 32) (n : List Nat) :
    ∃ x pa pc, atE E (.agg (opV zeroO none 0)) n = .agg (opV x pa pc) ∧ decide (n ∈ E.map (·.1)) = decide (n ∈ L.map nameN) ∧ x.d.ref.length = 32 ∧ IAt pa x.preds w ∧
      ((n ∈ L.map nameN ∧ x ∈ L ∧ nameN x = n ∧ OffX X pa x.preds ∧ E.lookup n = some (Value.agg (opV x pa pc)) ∧ ∃ i : Nat, L[i]? = some x ∧ E[i]? = some (n, Value.agg (opV x pa pc))) ∨ (n ∉ L.map nameN ∧ x = zeroO ∧ pa = none ∧ pc = 0)) := by
  rw [h.keys]
  by_cases hn : n ∈ L.map nameN
  · obtain ⟨x, hx, rfl⟩ := List.mem_map.1 hn
    obtain ⟨i, hi, he⟩ := List.getElem_of_mem hx
    have hix : L[i]? = some x := by rw [List.getElem?_eq_getElem hi, he]
    obtain ⟨pa, pc, h1, h2, h3, h4⟩ := h.here hd hix
    exact ⟨x, pa, pc, by rw [atE, h2]; rfl, rfl, hr x hx, h3, .inl ⟨hn, hx, rfl, h4, h2, i, hix, h1⟩⟩
  · exact ⟨zeroO, none, 0, by rw [atE, h.not hn]; rfl, rfl, rfl, .inl rfl, .inr ⟨hn, rfl, rfl, rfl⟩⟩
theorem opV_one (x : OpN) (pa : Option Addr) (pc : Nat) : (opV x pa pc).all (·.oneCell') = true := opV_all x pa pc
set_option maxHeartbeats 4000000 in
set_option maxRecDepth 100000 in
theorem dev_knows (X : Nat → Prop) (B : Bs) (T : Ents) (s : DagN) (hs : List (List Nat)) (M : Bh) (n : List Nat) (w : World) (h : SetAt X B T s hs M w) (hn : IdOk n) (hro : ∀ x ∈ s.ops, x.d.ref.length = 32) (hrw : ∀ x ∈ s.wait, x.d.ref.length = 32) :
    Calls Tryz.prog 29 #[.pointer (some ⟨B.gs, 0, none⟩), .agg (nums .u8 n).toArray] w fun e w' => e = .returned (.bool (decide (n ∈ s.names) || decide (n ∈ s.waits))) ∧ Below w.heap.size w w' := by
  obtain ⟨x, pa, pc, e1, e2, e3, _⟩ := ents_look h.ops h.pm.nodup hro n
  obtain ⟨y, qa, qc, f1, f2, f3, _⟩ := ents_look h.wait h.wm.nodup hrw n
  have b1 : Below w.heap.size w (w.alloc (.cells (nums .u8 n).toArray 25)) := (Below.refl _ _).alloc (Nat.le_refl _) _
  have x1 : Blk w.heap.size 25 .u8 n (w.alloc (.cells (nums .u8 n).toArray 25)) := heap_alloc_new w _
  have HB := Lib.hid b1
  have HC0 := Lib.hid x1
  have HS0 := Lib.hid (h.below b1)
  have HN := Lib.hid hn
  have HSN := Lib.hid (show (Tryz.prog.info? 25).map (·.size) = some n.length by rw [hn.1]; exact Tryz.sizeI)
  obtain ⟨pb, hp⟩ : ∃ p, decide (n ∈ s.names) = p := ⟨_, rfl⟩
  obtain ⟨qb, hq⟩ : ∃ q, decide (n ∈ s.waits) = q := ⟨_, rfl⟩
  rw [hp, hq]
  rw [show decide (n ∈ s.ops.map nameN) = pb from hp] at e2
  rw [show decide (n ∈ s.wait.map nameN) = qb from hq] at f2
  obtain ⟨Z1, hZ1⟩ : ∃ Z, opV x pa pc = Z := ⟨_, rfl⟩
  obtain ⟨Z2, hZ2⟩ : ∃ Z, opV y qa qc = Z := ⟨_, rfl⟩
  have HE1 := Shut.mk (show Value.tuple #[atE T.p (.agg (opV zeroO none 0)) n, .bool (decide (n ∈ T.p.map (·.1)))] = .tuple #[.agg Z1, .bool pb] by rw [e1, e2, hZ1])
  have HE2 := Shut.mk (show Value.tuple #[atE T.w (.agg (opV zeroO none 0)) n, .bool (decide (n ∈ T.w.map (·.1)))] = .tuple #[.agg Z2, .bool qb] by rw [f1, f2, hZ2])
  have HI1 := Lib.hid (show (Tryz.prog.info? 38).map (·.size) = some Z1.size by rw [← hZ1, opV_size e3]; exact Tryz.sizeO)
  have HI2 := Lib.hid (show (Tryz.prog.info? 38).map (·.size) = some Z2.size by rw [← hZ2, opV_size f3]; exact Tryz.sizeO)
  have HL1 := Lib.hid (show (opV zeroO none 0).size = Z1.size by rw [← hZ1, opV_size e3]; rfl)
  have HL2 := Lib.hid (show (opV zeroO none 0).size = Z2.size by rw [← hZ2, opV_size f3]; rfl)
  have HA1 := Lib.hid (show Z1.all (·.oneCell') = true by rw [← hZ1]; exact opV_one _ _ _)
  have HA2 := Lib.hid (show Z2.all (·.oneCell') = true by rw [← hZ2]; exact opV_one _ _ _)
  clear h b1 x1 hn e1 e2 e3 f1 f2 f3 hro hrw hZ1 hZ2 hp hq
  go_enter Tryz.func29, Tryz.ntmps29
  go_upto_region 1 with (fail)
  obtain ⟨w1, hw1⟩ : ∃ x, x = w.alloc (.cells (nums .u8 n).toArray 25) := ⟨_, rfl⟩
  rw [← hw1] at HB HC0 HS0 ⊢
  clear hw1
  refine wp_region_free 11 (fun q V w' => Val q V 0 (.pointer (some ⟨B.gs, 0, none⟩)) ∧ Val q V 1 (.pointer (some ⟨B.gs, 0, none⟩)) ∧ Val q V 2 (.pointer (some ⟨B.gs, 0, none⟩)) ∧ Val q V 3 (.map (some B.p)) ∧ Val q V 4 (.agg (nums .u8 n).toArray) ∧ Val q V 5 (.tuple #[.agg Z1, .bool pb]) ∧ Val q V 6 (.tuple #[.agg Z1, .bool pb]) ∧ Val q V 7 (.agg Z1) ∧ Val q V 8 (.bool pb) ∧ PutC q V w1.heap.size 9 10 38 (opV zeroO none 0) (Z1) w' ∧ Below w1.heap.size w1 w' ∧ Late q 9 10) (fun _ => undef) (by kernel_rfl) (by kernel_rfl) (by kernel_rfl) (by simp only [List.take_succ_cons, List.take_zero, putAll, Act.put, List.setIfInBounds_toArray, List.set_cons_zero, List.set_cons_succ]) ⟨Val.none, Val.none, Val.none, Val.none, Val.none, Val.none, Val.none, Val.none, Val.none, PutC.none, (Below.refl _ _).drew, Late.none⟩ ?_ ?_
  · simp only [List.take_succ_cons, List.take_zero, putAll, Nat.zero_add, Nat.reduceAdd, Act.put, List.setIfInBounds_toArray, List.set_cons_zero, List.set_cons_succ]
    refine FreeSteps.cons ?_ (FreeSteps.cons ?_ (FreeSteps.cons ?_ (FreeSteps.cons ?_ (FreeSteps.cons ?_ (FreeSteps.cons ?_ (FreeSteps.cons ?_ (FreeSteps.cons ?_ (FreeSteps.cons ?_ (FreeSteps.cons ?_ (FreeSteps.cons ?_ (FreeSteps.nil)))))))))))
    all_goals (refine FreeStep.fresh rfl ?_; rintro q V wq hr hu ⟨h0, h1, h2, h3, h4, h5, h6, h7, h8, h9, hb, hl9⟩ K hK)
    · exact op_move (.tmp 0) rfl _ rfl (hK _ _ ⟨.same, h1.ne (by decide), h2.ne (by decide), h3.ne (by decide), h4.ne (by decide), h5.ne (by decide), h6.ne (by decide), h7.ne (by decide), h8.ne (by decide), h9.ne (by decide) (by decide) (Below.refl _ _), hb, hl9.ne (by decide)⟩)
    · exact op_nilCheck (.tmp 10) rfl ⟨B.gs, 0, none⟩ (h0 (hr { on := 0, ground := .data } (by simp) rfl)) (hK _ _ ⟨h0.ne (by decide), .same, h2.ne (by decide), h3.ne (by decide), h4.ne (by decide), h5.ne (by decide), h6.ne (by decide), h7.ne (by decide), h8.ne (by decide), h9.ne (by decide) (by decide) (Below.refl _ _), hb, hl9.ne (by decide)⟩)
    · exact op_fieldAt 65 (.tmp 11) 0 rfl _ _ (h1 (hr { on := 1, ground := .data } (by simp) rfl)) (field_dag B.gs 0 (by decide)) (hK _ _ ⟨h0.ne (by decide), h1.ne (by decide), .same, h3.ne (by decide), h4.ne (by decide), h5.ne (by decide), h6.ne (by decide), h7.ne (by decide), h8.ne (by decide), h9.ne (by decide) (by decide) (Below.refl _ _), hb, hl9.ne (by decide)⟩)
    · exact op_load_cell 61 (.tmp 12) rfl _ _ (h2 (hr { on := 2, ground := .data } (by simp) rfl)) (HS0.out.below hb).cell.1 Tryz.isAgg61 (hK _ _ ⟨h0.ne (by decide), h1.ne (by decide), h2.ne (by decide), .same, h4.ne (by decide), h5.ne (by decide), h6.ne (by decide), h7.ne (by decide), h8.ne (by decide), h9.ne (by decide) (by decide) (Below.refl _ _), hb, hl9.ne (by decide)⟩)
    · exact op_load_nums 25 (.tmp 3) rfl w.heap.size .u8 n 25 _ rfl (HC0.out.below hb) Tryz.underlying25 rfl HSN.out (hK _ _ ⟨h0.ne (by decide), h1.ne (by decide), h2.ne (by decide), h3.ne (by decide), .same, h5.ne (by decide), h6.ne (by decide), h7.ne (by decide), h8.ne (by decide), h9.ne (by decide) (by decide) (Below.refl _ _), hb, hl9.ne (by decide)⟩)
    · exact op_lookup_id (.tmp 13) (.tmp 14) 61 25 38 true rfl Tryz.idKey Tryz.underlying61 (.agg (opV zeroO none 0)) (zero_op wq) B.p T.p (HS0.out.below hb).pm n HN.out (h3 (hr { on := 3, ground := .data } (by simp) rfl)) (h4 (hr { on := 4, ground := .data } (by simp) rfl)) _ (by rw [HE1.out]; rfl) (hK _ _ ⟨h0.ne (by decide), h1.ne (by decide), h2.ne (by decide), h3.ne (by decide), h4.ne (by decide), .same, h6.ne (by decide), h7.ne (by decide), h8.ne (by decide), h9.ne (by decide) (by decide) (Below.refl _ _), hb, hl9.ne (by decide)⟩)
    · exact op_move (.tmp 15) rfl _ (h5 (hr { on := 5, ground := .data } (by simp) rfl)) (hK _ _ ⟨h0.ne (by decide), h1.ne (by decide), h2.ne (by decide), h3.ne (by decide), h4.ne (by decide), h5.ne (by decide), .same, h7.ne (by decide), h8.ne (by decide), h9.ne (by decide) (by decide) (Below.refl _ _), hb, hl9.ne (by decide)⟩)
    · exact op_extract (.tmp 9) 0 rfl _ _ (h6 (hr { on := 6, ground := .data } (by simp) rfl)) (extract0 _ _) (hK _ _ ⟨h0.ne (by decide), h1.ne (by decide), h2.ne (by decide), h3.ne (by decide), h4.ne (by decide), h5.ne (by decide), h6.ne (by decide), .same, h8.ne (by decide), h9.ne (by decide) (by decide) (Below.refl _ _), hb, hl9.ne (by decide)⟩)
    · exact op_extract (.tmp 9) 1 rfl _ _ (h6 (hr { on := 6, ground := .data } (by simp) rfl)) (extract1 _ _) (hK _ _ ⟨h0.ne (by decide), h1.ne (by decide), h2.ne (by decide), h3.ne (by decide), h4.ne (by decide), h5.ne (by decide), h6.ne (by decide), h7.ne (by decide), .same, h9.ne (by decide) (by decide) (Below.refl _ _), hb, hl9.ne (by decide)⟩)
    · exact op_alloc 38 rfl (opV zeroO none 0) alloc_op (hK _ _ ⟨h0.ne (by decide), h1.ne (by decide), h2.ne (by decide), h3.ne (by decide), h4.ne (by decide), h5.ne (by decide), h6.ne (by decide), h7.ne (by decide), h8.ne (by decide), PutC.made hb.size (hl9.not hu) (by decide), hb.alloc hb.size _, hl9.ne (by decide)⟩)
    · obtain ⟨g, hV, hg0, hc0⟩ := h9 (hr { on := 9, ground := .data } (by simp) rfl)
      rw [if_neg (by rw [hu]; decide)] at hc0
      refine op_store_cells 38 (.tmp 5) (.tmp 16) rfl g _ (Z1) 38 hV (h7 (hr { on := 7, ground := .data } (by simp) rfl)) hc0 HI1.out HL1.out HA1.out ?_
      intro w' hc' hbt
      have hbn := But.toBelow hb hbt hg0 hb.size
      exact (hK _ _ ⟨h0.ne (by decide), h1.ne (by decide), h2.ne (by decide), h3.ne (by decide), h4.ne (by decide), h5.ne (by decide), h6.ne (by decide), h7.ne (by decide), h8.ne (by decide), PutC.stored hV hg0 (by decide) hc', hbn, Late.same (hr { on := 9, ground := .data } (by simp) rfl)⟩)
  rintro q V wq hall ⟨h0, h1, h2, h3, h4, h5, h6, h7, h8, h9, hb, hl9⟩
  have v0 := h0 (hall 0 (by decide))
  have v1 := h1 (hall 1 (by decide))
  have v2 := h2 (hall 2 (by decide))
  have v3 := h3 (hall 3 (by decide))
  have v4 := h4 (hall 4 (by decide))
  have v5 := h5 (hall 5 (by decide))
  have v6 := h6 (hall 6 (by decide))
  have v7 := h7 (hall 7 (by decide))
  have v8 := h8 (hall 8 (by decide))
  obtain ⟨g9, v9, hg9, hc9⟩ := h9 (hall 9 (by decide))
  rw [if_pos (hall 10 (by decide))] at hc9
  obtain ⟨u10, v10⟩ : ∃ v, V 10 = v := ⟨_, rfl⟩
  simp only [List.take_succ_cons, List.take_zero, List.drop_succ_cons, List.drop_zero, putAll, Nat.zero_add, Nat.reduceAdd, v0, v1, v2, v3, v4, v5, v6, v7, v8, v9, Act.put, List.setIfInBounds_toArray, List.set_cons_zero, List.set_cons_succ]
  clear h0 h1 h2 h3 h4 h5 h6 h7 h8 v0 v1 v2 v3 v4 v5 v6 v7 v8 v9 v10 hall hl9
  have HC2 := Lib.hid (HC0.out.below hb)
  have HS2 := Lib.hid (HS0.out.below hb)
  have HB2 := Lib.hid (HB.out.trans (hb.mono HB.out.size))
  clear hb hc9 hg9 HC0 HS0 HB
  obtain ⟨w2, hw2⟩ : ∃ x, x = wq := ⟨_, rfl⟩
  rw [← hw2] at HC2 HS2 HB2 ⊢
  clear hw2
  cases pb with
  | true =>
    go_wp2_with fail
    go_ret
    exact ⟨rfl, HB2.out⟩
  | false =>
    go_upto_region 4 with (fail)
    refine wp_region_free 11 (fun q V w' => Val q V 0 (.pointer (some ⟨B.gs, 0, none⟩)) ∧ Val q V 1 (.pointer (some ⟨B.gs, 0, none⟩)) ∧ Val q V 2 (.pointer (some ⟨B.gs, 1, none⟩)) ∧ Val q V 3 (.map (some B.w)) ∧ Val q V 4 (.agg (nums .u8 n).toArray) ∧ Val q V 5 (.tuple #[.agg Z2, .bool qb]) ∧ Val q V 6 (.tuple #[.agg Z2, .bool qb]) ∧ Val q V 7 (.agg Z2) ∧ Val q V 8 (.bool qb) ∧ PutC q V w2.heap.size 9 10 38 (opV zeroO none 0) (Z2) w' ∧ Below w2.heap.size w2 w' ∧ Late q 9 10) (fun _ => undef) (by kernel_rfl) (by kernel_rfl) (by kernel_rfl) (by simp only [List.take_succ_cons, List.take_zero, putAll, Act.put, List.setIfInBounds_toArray, List.set_cons_zero, List.set_cons_succ]) ⟨Val.none, Val.none, Val.none, Val.none, Val.none, Val.none, Val.none, Val.none, Val.none, PutC.none, (Below.refl _ _).drew, Late.none⟩ ?_ ?_
    · simp only [List.take_succ_cons, List.take_zero, putAll, Nat.zero_add, Nat.reduceAdd, Act.put, List.setIfInBounds_toArray, List.set_cons_zero, List.set_cons_succ]
      refine FreeSteps.cons ?_ (FreeSteps.cons ?_ (FreeSteps.cons ?_ (FreeSteps.cons ?_ (FreeSteps.cons ?_ (FreeSteps.cons ?_ (FreeSteps.cons ?_ (FreeSteps.cons ?_ (FreeSteps.cons ?_ (FreeSteps.cons ?_ (FreeSteps.cons ?_ (FreeSteps.nil)))))))))))
      all_goals (refine FreeStep.fresh rfl ?_; rintro q V wq hr hu ⟨h0, h1, h2, h3, h4, h5, h6, h7, h8, h9, hb, hl9⟩ K hK)
      · exact op_move (.tmp 0) rfl _ rfl (hK _ _ ⟨.same, h1.ne (by decide), h2.ne (by decide), h3.ne (by decide), h4.ne (by decide), h5.ne (by decide), h6.ne (by decide), h7.ne (by decide), h8.ne (by decide), h9.ne (by decide) (by decide) (Below.refl _ _), hb, hl9.ne (by decide)⟩)
      · exact op_nilCheck (.tmp 20) rfl ⟨B.gs, 0, none⟩ (h0 (hr { on := 0, ground := .data } (by simp) rfl)) (hK _ _ ⟨h0.ne (by decide), .same, h2.ne (by decide), h3.ne (by decide), h4.ne (by decide), h5.ne (by decide), h6.ne (by decide), h7.ne (by decide), h8.ne (by decide), h9.ne (by decide) (by decide) (Below.refl _ _), hb, hl9.ne (by decide)⟩)
      · exact op_fieldAt 65 (.tmp 21) 1 rfl _ _ (h1 (hr { on := 1, ground := .data } (by simp) rfl)) (field_dag B.gs 1 (by decide)) (hK _ _ ⟨h0.ne (by decide), h1.ne (by decide), .same, h3.ne (by decide), h4.ne (by decide), h5.ne (by decide), h6.ne (by decide), h7.ne (by decide), h8.ne (by decide), h9.ne (by decide) (by decide) (Below.refl _ _), hb, hl9.ne (by decide)⟩)
      · exact op_load_cell 61 (.tmp 22) rfl _ _ (h2 (hr { on := 2, ground := .data } (by simp) rfl)) (HS2.out.below hb).cell.2.1 Tryz.isAgg61 (hK _ _ ⟨h0.ne (by decide), h1.ne (by decide), h2.ne (by decide), .same, h4.ne (by decide), h5.ne (by decide), h6.ne (by decide), h7.ne (by decide), h8.ne (by decide), h9.ne (by decide) (by decide) (Below.refl _ _), hb, hl9.ne (by decide)⟩)
      · exact op_load_nums 25 (.tmp 3) rfl w.heap.size .u8 n 25 _ rfl (HC2.out.below hb) Tryz.underlying25 rfl HSN.out (hK _ _ ⟨h0.ne (by decide), h1.ne (by decide), h2.ne (by decide), h3.ne (by decide), .same, h5.ne (by decide), h6.ne (by decide), h7.ne (by decide), h8.ne (by decide), h9.ne (by decide) (by decide) (Below.refl _ _), hb, hl9.ne (by decide)⟩)
      · exact op_lookup_id (.tmp 23) (.tmp 24) 61 25 38 true rfl Tryz.idKey Tryz.underlying61 (.agg (opV zeroO none 0)) (zero_op wq) B.w T.w (HS2.out.below hb).wm n HN.out (h3 (hr { on := 3, ground := .data } (by simp) rfl)) (h4 (hr { on := 4, ground := .data } (by simp) rfl)) _ (by rw [HE2.out]; rfl) (hK _ _ ⟨h0.ne (by decide), h1.ne (by decide), h2.ne (by decide), h3.ne (by decide), h4.ne (by decide), .same, h6.ne (by decide), h7.ne (by decide), h8.ne (by decide), h9.ne (by decide) (by decide) (Below.refl _ _), hb, hl9.ne (by decide)⟩)
      · exact op_move (.tmp 25) rfl _ (h5 (hr { on := 5, ground := .data } (by simp) rfl)) (hK _ _ ⟨h0.ne (by decide), h1.ne (by decide), h2.ne (by decide), h3.ne (by decide), h4.ne (by decide), h5.ne (by decide), .same, h7.ne (by decide), h8.ne (by decide), h9.ne (by decide) (by decide) (Below.refl _ _), hb, hl9.ne (by decide)⟩)
      · exact op_extract (.tmp 19) 0 rfl _ _ (h6 (hr { on := 6, ground := .data } (by simp) rfl)) (extract0 _ _) (hK _ _ ⟨h0.ne (by decide), h1.ne (by decide), h2.ne (by decide), h3.ne (by decide), h4.ne (by decide), h5.ne (by decide), h6.ne (by decide), .same, h8.ne (by decide), h9.ne (by decide) (by decide) (Below.refl _ _), hb, hl9.ne (by decide)⟩)
      · exact op_extract (.tmp 19) 1 rfl _ _ (h6 (hr { on := 6, ground := .data } (by simp) rfl)) (extract1 _ _) (hK _ _ ⟨h0.ne (by decide), h1.ne (by decide), h2.ne (by decide), h3.ne (by decide), h4.ne (by decide), h5.ne (by decide), h6.ne (by decide), h7.ne (by decide), .same, h9.ne (by decide) (by decide) (Below.refl _ _), hb, hl9.ne (by decide)⟩)
      · exact op_alloc 38 rfl (opV zeroO none 0) alloc_op (hK _ _ ⟨h0.ne (by decide), h1.ne (by decide), h2.ne (by decide), h3.ne (by decide), h4.ne (by decide), h5.ne (by decide), h6.ne (by decide), h7.ne (by decide), h8.ne (by decide), PutC.made hb.size (hl9.not hu) (by decide), hb.alloc hb.size _, hl9.ne (by decide)⟩)
      · obtain ⟨g, hV, hg0, hc0⟩ := h9 (hr { on := 9, ground := .data } (by simp) rfl)
        rw [if_neg (by rw [hu]; decide)] at hc0
        refine op_store_cells 38 (.tmp 7) (.tmp 26) rfl g _ (Z2) 38 hV (h7 (hr { on := 7, ground := .data } (by simp) rfl)) hc0 HI2.out HL2.out HA2.out ?_
        intro w' hc' hbt
        have hbn := But.toBelow hb hbt hg0 hb.size
        exact (hK _ _ ⟨h0.ne (by decide), h1.ne (by decide), h2.ne (by decide), h3.ne (by decide), h4.ne (by decide), h5.ne (by decide), h6.ne (by decide), h7.ne (by decide), h8.ne (by decide), PutC.stored hV hg0 (by decide) hc', hbn, Late.same (hr { on := 9, ground := .data } (by simp) rfl)⟩)
    rintro q V wq hall ⟨h0, h1, h2, h3, h4, h5, h6, h7, h8, h9, hb, hl9⟩
    have v0 := h0 (hall 0 (by decide))
    have v1 := h1 (hall 1 (by decide))
    have v2 := h2 (hall 2 (by decide))
    have v3 := h3 (hall 3 (by decide))
    have v4 := h4 (hall 4 (by decide))
    have v5 := h5 (hall 5 (by decide))
    have v6 := h6 (hall 6 (by decide))
    have v7 := h7 (hall 7 (by decide))
    have v8 := h8 (hall 8 (by decide))
    obtain ⟨g9, v9, hg9, hc9⟩ := h9 (hall 9 (by decide))
    rw [if_pos (hall 10 (by decide))] at hc9
    obtain ⟨u10, v10⟩ : ∃ v, V 10 = v := ⟨_, rfl⟩
    simp only [List.take_succ_cons, List.take_zero, List.drop_succ_cons, List.drop_zero, putAll, Nat.zero_add, Nat.reduceAdd, v0, v1, v2, v3, v4, v5, v6, v7, v8, v9, Act.put, List.setIfInBounds_toArray, List.set_cons_zero, List.set_cons_succ]
    clear h0 h1 h2 h3 h4 h5 h6 h7 h8 v0 v1 v2 v3 v4 v5 v6 v7 v8 v9 v10 hall hl9
    have HB4 := Lib.hid (HB2.out.trans (hb.mono HB2.out.size))
    clear hb hc9 hg9
    go_wp2_with fail
    go_ret
    exact ⟨by rw [Bool.false_or]; rfl, HB4.out⟩
end Go.Proofs.YtandadfphlandaaGreatDoor
namespace Go.Proofs.YtandadfphlandaaGreatDoor
open Go.RowKit Go.BigFrame
theorem depthAt_get {L : List OpN} (hd : (L.map nameN).Nodup) {i : Nat} {x : OpN} (h : L[i]? = some x) : depthAt L (nameN x) = x.depth := by
  have hi := (List.getElem?_eq_some_iff.1 h).1
  have hm : nameN x ∈ L.map nameN := List.mem_map.2 ⟨x, List.mem_of_getElem? h, rfl⟩
  have hx := List.idxOf_lt_length_of_mem hm
  have h1 : (L.map nameN)[(L.map nameN).idxOf (nameN x)]? = (L.map nameN)[i]? := by
    rw [List.getElem?_eq_getElem hx, List.getElem_idxOf hx, List.getElem?_map, h]
    rfl
  have h2 := (List.getElem?_inj hx hd).1 h1
  rw [depthAt, h2, h]
  rfl
theorem depthAt_not {L : List OpN} {n : List Nat} (h : n ∉ L.map nameN) : depthAt L n = 0 := by
  rw [depthAt, List.getElem?_eq_none]
  · rfl
  · rw [List.idxOf_eq_length h, List.length_map]
    exact Nat.le_refl _
set_option maxRecDepth 100000 in
theorem quiet_depth {o : Oper} {a : Act} {C : World → Prop} {K : Act → Prop} (x : Operand) (ho : o.op = .field 38 x 2) (y : OpN) (pa : Option Addr) (pc : Nat) (hy : y.d.ref.length = 32) (hx : a.eval x = .agg (opV y pa pc)) (hk : K (a.put o.dst (.int .i64 y.depth))) : o.quiet Tryz.prog a C K := by
  have hc : (opV y pa pc)[36]? = some (.int .i64 y.depth) := by rw [opV, List.getElem?_toArray]; exact opL_depth hy
  refine ⟨_, fun w _ => ?_, hk⟩
  unfold Oper.quietAt execOp
  have hr : (Instr.field 38 (.agg (opV y pa pc)) 2).run Tryz.prog w = .ok (.int .i64 y.depth) w := by
    obtain ⟨Z, hZ⟩ : ∃ Z, opV y pa pc = Z := ⟨_, rfl⟩
    rw [hZ] at hc ⊢
    go_simp
    exact part_cell (Tryz.isAgg3 w) hc
  simp only [ho, hx, hr, Sem.run_bind, Sem.run_pure, Result.andThen_ok]
  exact ⟨rfl, rfl⟩
set_option maxHeartbeats 4000000 in
set_option maxRecDepth 100000 in
theorem dev_depth (X : Nat → Prop) (B : Bs) (T : Ents) (s : DagN) (hs : List (List Nat)) (M : Bh) (P : List (List Nat)) (pa : Option Addr) (m pc : Nat) (w : World) (h : SetAt X B T s hs M w) (hP : Ids P) (hp : IAt pa P w) (hm : P.length = m) (hq : m ≤ 1000000) (hro : ∀ x ∈ s.ops, x.d.ref.length = 32) (hsh : s.Shallow) (hb : s.ops.length ≤ 1000000) :
    Calls Tryz.prog 42 #[.pointer (some ⟨B.gs, 0, none⟩), .slice pa m pc] w fun e w' => e = .returned (.int .i64 (maxD s.ops P + 1)) ∧ Below w.heap.size w w' := by
  have HLK := Lib.hid (fun n => show ∃ (x : OpN) (qa : Option Addr) (qc : Nat), atE T.p (.agg (opV zeroO none 0)) n = .agg (opV x qa qc) ∧ x.d.ref.length = 32 ∧ depthAt s.ops n = x.depth from by
    obtain ⟨x, qa, qc, e1, _, e3, _, e5⟩ := ents_look h.ops h.pm.nodup hro n
    refine ⟨x, qa, qc, e1, e3, ?_⟩
    rcases e5 with ⟨_, _, e, _, _, i, hi, _⟩ | ⟨e, rfl, _⟩
    · rw [← e]
      exact depthAt_get (by rw [← h.ops.keys]; exact h.pm.nodup) hi
    · exact depthAt_not e)
  have HMD := Lib.hid (fun P : List (List Nat) => show 0 ≤ maxD s.ops P ∧ maxD s.ops P ≤ 1000000 from ⟨(maxD_le hsh (by omega) P).1, Int.le_trans (maxD_le hsh (by omega) P).2 (by omega)⟩)
  have HS := Lib.hid h
  have HPA := Lib.hid hp
  have HPI := Lib.hid hP
  have HM := Shut.mk hm
  clear h hp hP hm hro hsh hb
  go_enter Tryz.func42, Tryz.ntmps42
  go_upto_region 2 with (fail)
  go_wp2_with fail
  have H0 := Shut.mk (show maxD s.ops (P.take 0) = 0 from rfl)
  go_loopw [10, 5] (fun i g wr => ∃ k : Nat, k ≤ m ∧ i = .int .i64 k ∧ g = .int .i64 (maxD s.ops (P.take k)) ∧ Below w.heap.size w wr) (fun i _ _ => m - (intOf i).toNat)
  case atStart => exact ⟨0, Nat.zero_le _, rfl, by rw [H0.out], Below.refl _ _⟩
  case round =>
    obtain ⟨k, hk, rfl, rfl, hbw⟩ := hrel
    have HB := Lib.hid hbw
    have HPW := Lib.hid (HPA.out.below hbw)
    have HSW := Lib.hid (HS.out.below hbw)
    clear hbw
    have hmd := HMD.out (P.take k)
    obtain ⟨D, hD⟩ : ∃ D, maxD s.ops (P.take k) = D := ⟨_, rfl⟩
    rw [hD] at hmd ⊢
    have HD := Shut.mk hD
    clear hD
    by_cases hlt : k < m
    · obtain ⟨b, ob, rfl, hbl⟩ := HPW.out.some (by rw [HM.out]; omega)
      have g1 := HPW.out.get (i := k) (by rw [HM.out]; omega)
      have i1 := Ids.getD HPI.out (i := k) (by rw [HM.out]; omega)
      obtain ⟨x, hx⟩ : ∃ x, P.getD k [] = x := ⟨_, rfl⟩
      rw [hx] at g1 i1
      have HXE := Shut.mk hx
      have HXI := Lib.hid i1
      have HG1 := Lib.hid g1
      have HS1 := Lib.hid (show (Tryz.prog.info? 25).map (·.size) = some x.length by rw [i1.1]; exact Tryz.sizeI)
      have HL2 := Lib.hid (show (List.replicate 32 0).length = x.length by rw [i1.1]; rfl)
      obtain ⟨y, qa, qc, e1, e2, e3⟩ := HLK.out x
      have HE1 := Shut.mk e1
      have HE2 := Lib.hid e2
      have HNX := Shut.mk (show maxD s.ops (P.take (k + 1)) = if D < y.depth then y.depth else D by rw [maxD_step (by rw [HM.out]; exact hlt), hx, HD.out, e3])
      clear hx g1 i1 hbl e1 e2 e3
      go_wp2_with (first
        | (refine wpList_load_id rfl 25 _ rfl b (ob + k * 32) x _ rfl HG1.out Tryz.underlying25 rfl HS1.out ?_)
        | (refine wpList_store_nums rfl 25 _ _ rfl rfl wr.heap.size .u8 (List.replicate 32 0) x 25 rfl rfl (heap_alloc_new wr _) HS1.out HL2.out ?_))
      intro w5 hc' hb'
      have HB5a := Lib.hid (show Below wr.heap.size wr w5 from But.toBelow ((Below.refl _ _).alloc (Nat.le_refl _) _) hb'.out (Nat.le_refl _) (by rw [World.size_alloc]; exact Nat.le_succ _))
      have HB5 := Lib.hid (HB.out.trans (HB5a.out.mono HB.out.size))
      have HS5 := Lib.hid (fun w' (hb : Below w5.heap.size w5 w') => (HSW.out.below HB5a.out).below hb)
      have HC5 := Lib.hid (fun w' (hb : Below w5.heap.size w5 w') => show Blk wr.heap.size 25 .u8 x w' from Blk.below (show Blk wr.heap.size 25 .u8 x w5 from hc'.out) hb)
      clear hc' hb'
      go_upto_region 5 with (fail)
      have HCE := Lib.hid (fun w' (hb : Below w5.heap.size w5 w') => (HS5.out w' hb).cell.1)
      refine wp_region_class_tail (fun w' => Below w5.heap.size w5 w') 9 (by kernel_rfl) (by kernel_rfl) (Below.refl _ _).drew ?_
      simp only [List.take_succ_cons, List.take_zero, List.drop_succ_cons, List.drop_zero]
      repeat (first
        | (go_big_quiet_want; refine quiet_load_cell 61 _ rfl ⟨B.gs, 0, none⟩ _ rfl HCE.out Tryz.isAgg61 ?_; go_big_quiet_on; simp only [Act.put, List.setIfInBounds_toArray, List.set_cons_zero, List.set_cons_succ])
        | (go_big_quiet_want; refine quiet_load_nums 25 _ rfl wr.heap.size .u8 x 25 _ rfl HC5.out Tryz.underlying25 rfl HS1.out ?_; go_big_quiet_on; simp only [Act.put, List.setIfInBounds_toArray, List.set_cons_zero, List.set_cons_succ])
        | (go_big_quiet_want; refine quiet_lookup_id _ _ 61 25 38 false rfl Tryz.idKey Tryz.underlying61 (.agg (opV zeroO none 0)) zero_op B.p T.p (fun w' hb => (HS5.out w' hb).pm) x HXI.out rfl rfl _ HE1.out ?_; go_big_quiet_on; simp only [Act.put, List.setIfInBounds_toArray, List.set_cons_zero, List.set_cons_succ])
        | (go_big_quiet_want; refine quiet_depth _ rfl y qa qc HE2.out rfl ?_; go_big_quiet_on; simp only [Act.put, List.setIfInBounds_toArray, List.set_cons_zero, List.set_cons_succ])
        | go_big_quiet_step ((intro hs'; rfl)))
      refine wpQuiet_nil ?_
      intro w6 hs6
      have HB6 := Lib.hid (HB5.out.trans (hs6.mono HB5.out.size))
      clear hs6
      obtain ⟨D2, hD2⟩ : ∃ D2, (if D < y.depth then y.depth else D) = D2 := ⟨_, rfl⟩
      have HN2 := Shut.mk (HNX.out.trans hD2)
      have hD3 : max D y.depth = D2 := by rw [← hD2]; split <;> omega
      first | rw [hD2] | rw [hD3]
      clear hD2 hD3 HNX
      go_wp2_with fail
      exact ⟨⟨k + 1, by omega, by go_num, by rw [HN2.out], HB6.out⟩, by simp [intOf]; omega⟩
    · obtain rfl : k = m := by omega
      have HR := Shut.mk (show maxD s.ops P = D by rw [← HD.out, List.take_of_length_le (by rw [HM.out]; exact Nat.le_refl _)])
      go_wp2_with fail
      go_ret
      exact ⟨by rw [HR.out]; rfl, HB.out⟩
set_option maxHeartbeats 4000000 in
set_option maxRecDepth 100000 in
theorem dev_fits (X : Nat → Prop) (B : Bs) (T : Ents) (s : DagN) (hs : List (List Nat)) (M : Bh) (o : OpN) (pa : Option Addr) (pc : Nat) (w : World) (h : SetAt X B T s hs M w) (ho : o.d.ref.length = 32) (hP : Ids o.preds) (hp : IAt pa o.preds w) (hq : o.preds.length ≤ 1000000) (hro : ∀ x ∈ s.ops, x.d.ref.length = 32) (hsh : s.Shallow) (hb : s.ops.length ≤ 1000000) :
    Calls Tryz.prog 32 #[.pointer (some ⟨B.gs, 0, none⟩), .agg (opV o pa pc)] w fun e w' => e = .returned (.bool (decide (o.depth = depthN s.ops o))) ∧ Below w.heap.size w w' := by
  have b1 : Below w.heap.size w (w.alloc (.cells (opV o pa pc) 38)) := (Below.refl _ _).alloc (Nat.le_refl _) _
  have x1 : Cells w.heap.size 38 (opV o pa pc) (w.alloc (.cells (opV o pa pc) 38)) := heap_alloc_new w _
  have HB := Lib.hid b1
  have HX := Lib.hid x1
  obtain ⟨m, hm⟩ : ∃ m, o.preds.length = m := ⟨_, rfl⟩
  have HD := Lib.hid (fun w1 (b : Below w.heap.size w w1) => dev_depth X B T s hs M o.preds pa m pc w1 (h.below b) hP (hp.below b) hm (hm ▸ hq) hro hsh hb)
  have HE := Shut.mk (show depthN s.ops o = maxD s.ops o.preds + 1 from rfl)
  obtain ⟨DD, hDD⟩ : ∃ DD, depthN s.ops o = DD := ⟨_, rfl⟩
  rw [hDD] at HE ⊢
  rw [← HE.out] at HD
  have HO := Lib.hid ho
  have HM := Shut.mk hm
  clear h b1 x1 hp ho hP hm hro hsh hb hq HE hDD
  go_enter Tryz.func32, Tryz.ntmps32
  go_upto_region 1 with (fail)
  obtain ⟨w1, hw1⟩ : ∃ x, x = w.alloc (.cells (opV o pa pc) 38) := ⟨_, rfl⟩
  rw [← hw1] at HB HX ⊢
  clear hw1
  have HC36 := Lib.hid (fun w' (hb : Below w1.heap.size w1 w') => (op_cells HO.out (HX.out.below hb)).2.2.1)
  have HC37 := Lib.hid (fun w' (hb : Below w1.heap.size w1 w') => (op_cells HO.out (HX.out.below hb)).2.2.2)
  rw [HM.out] at HC37
  have HD1 := Lib.hid (fun w' (hb : Below w1.heap.size w1 w') => HD.out w' (HB.out.trans (hb.mono HB.out.size)))
  refine wp_region_class_tail (fun w' => Below w1.heap.size w1 w') 7 (by kernel_rfl) (by kernel_rfl) (Below.refl _ _).drew ?_
  simp only [List.take_succ_cons, List.take_zero, List.drop_succ_cons, List.drop_zero]
  repeat (first
    | (go_big_quiet_want; refine quiet_load_cell 3 _ rfl ⟨w.heap.size, 36, none⟩ _ rfl HC36.out Tryz.isAgg3 ?_; go_big_quiet_on; simp only [Act.put, List.setIfInBounds_toArray, List.set_cons_zero, List.set_cons_succ])
    | (go_big_quiet_want; refine quiet_load_cell 34 _ rfl ⟨w.heap.size, 37, none⟩ _ rfl HC37.out Tryz.isAgg34 ?_; go_big_quiet_on; simp only [Act.put, List.setIfInBounds_toArray, List.set_cons_zero, List.set_cons_succ])
    | go_big_quiet_step ((intro hs'; first
        | (go_at_call 42; exact (HD1.out _ hs').mono fun e w' h => ⟨h.1, hs'.trans (h.2.mono hs'.size)⟩)
        | rfl)))
  refine wpQuiet_nil ?_
  intro w6 hs6
  have HB6 := Lib.hid (HB.out.trans (hs6.mono HB.out.size))
  clear hs6
  go_wp2_with fail
  go_ret
  exact ⟨by congr 2, HB6.out⟩
end Go.Proofs.YtandadfphlandaaGreatDoor
namespace Go.Proofs.YtandadfphlandaaGreatDoor
open Go.RowKit Go.BigFrame
theorem op_mapEntry {P : Program} {o : Oper} {a : Act} {w : World} {K : Act → World → Prop} {Q : Exit → Act → World → Prop} (m x : Operand) (T : TypeId) (ho : o.op = .mapEntry T m x) (b : Nat) (n : List Nat) (r : Value) (C : World → Prop) (hr : ∃ w', (Instr.mapEntry T (.map (some b)) (idV n)).run P w = .ok r w' ∧ C w')
    (hm : a.eval m = .map (some b)) (hx : a.eval x = idV n) (h : ∀ w', C w' → K (a.put o.dst r) w') : OpWp P o a w K Q := by
  refine ⟨?_⟩
  obtain ⟨w', h1, h2⟩ := hr
  unfold Oper.wp execOp
  simp only [ho, hm, hx, h1, Sem.run_bind, Sem.run_pure, Result.andThen_ok]
  exact h w' h2
theorem Blk.only {O : Nat → Prop} {g : Nat} {t : TypeId} {k : IntKind} {l : List Nat} {w w' : World} (h : Blk g t k l w) (ho : Only O w w') (hb : ¬ O g) : Blk g t k l w' := (ho.block g h.lt hb).trans h
structure WtI (w1 : World) (bb : Nat) (L : List (List Nat × Value)) (p n : List Nat) (r : Value) (l : List (List Nat)) (born : Int) (s : Nat → Bool) (V : Nat → Value) (w : World) : Prop where
  on : Only (fun b => r.ownBlock = some b ∨ b = bb) w1 w
  lit : s 6 = true → ∃ g, V 6 = .slice (some ⟨g, 0, none⟩) 1 1 ∧ w1.heap.size ≤ g ∧ Blk g 25 .u8 n w
  map0 : s 7 = false → w.heap[bb]? = w1.heap[bb]?
  map1 : s 7 = true → V 7 = .tuple #[r, .int .i64 born] ∧ MapE bb (entE L (.slice none 0 0) p) p born w
  row0 : s 9 = false → OwnI 0 25 r l w
  row1 : s 9 = true → OwnI 0 25 (V 9) (l ++ [n]) w ∧ Moved (V 9) r w1
section
variable {w1 w w' : World} {bb : Nat} {L : List (List Nat × Value)} {p n : List Nat} {r : Value} {l : List (List Nat)} {born : Int} {s : Nat → Bool} {V : Nat → Value}
theorem WtI.none (h2 : OwnI 0 25 r l w1) : WtI w1 bb L p n r l born (fun _ => false) V w1.drew :=
  ⟨Only.of (Below.refl _ _).drew, (fun h => by cases h), fun _ => rfl, (fun h => by cases h), fun _ => h2.below (Below.refl _ _).drew, (fun h => by cases h)⟩
theorem seen_at {s : Nat → Bool} {i k : Nat} (h : i ≠ k) (b : Bool) : ((s i || i == k) = b) = (s i = b) := by rw [beq_false_of_ne h, Bool.or_false]
theorem WtI.ne {k : Nat} {u : Value} (h : WtI w1 bb L p n r l born s V w) (h6 : 6 ≠ k) (h7 : 7 ≠ k) (h9 : 9 ≠ k) : WtI w1 bb L p n r l born (fun i => s i || i == k) (upd V k u) w := by
  refine ⟨h.on, fun hs => ?_, fun hs => ?_, fun hs => ?_, fun hs => ?_, fun hs => ?_⟩
  · rw [upd_ne V u h6]; exact h.lit (by rwa [seen_at h6] at hs)
  · exact h.map0 (by rwa [seen_at h7] at hs)
  · rw [upd_ne V u h7]; exact h.map1 (by rwa [seen_at h7] at hs)
  · exact h.row0 (by rwa [seen_at h9] at hs)
  · rw [upd_ne V u h9]; exact h.row1 (by rwa [seen_at h9] at hs)
theorem WtI.made (h : WtI w1 bb L p n r l born s V w) (hbb : bb < w1.heap.size) (hb : Below w.heap.size w w') (hg : Blk w.heap.size 25 .u8 n w') : WtI w1 bb L p n r l born (fun i => s i || i == 6) (upd V 6 (.slice (some ⟨w.heap.size, 0, Option.none⟩) 1 1)) w' := by
  refine ⟨h.on.below hb, fun _ => ⟨w.heap.size, upd_same _ _ _, h.on.size, hg⟩, fun hs => ?_, fun hs => ?_, fun hs => ?_, fun hs => ?_⟩
  · exact (hb.block bb (Nat.lt_of_lt_of_le hbb h.on.size)).trans (h.map0 (by rwa [seen_at (by decide)] at hs))
  · obtain ⟨e1, e2⟩ := h.map1 (by rwa [seen_at (by decide)] at hs)
    exact ⟨by rw [upd_ne V _ (by decide)]; exact e1, e2.only (Only.of (O := fun _ => False) hb) id⟩
  · exact (h.row0 (by rwa [seen_at (by decide)] at hs)).below hb
  · obtain ⟨e1, e2⟩ := h.row1 (by rwa [seen_at (by decide)] at hs)
    rw [upd_ne V _ (by decide)]
    exact ⟨e1.below hb, e2⟩
theorem WtI.entry (h : WtI w1 bb L p n r l born s V w) (hbb : bb < w1.heap.size) (hL : MapN bb L w) (k : Only (fun x => x = bb) w w') (hm : MapE bb (entE L (.slice Option.none 0 0) p) p born w') : WtI w1 bb L p n r l born (fun i => s i || i == 7) (upd V 7 (.tuple #[r, .int .i64 born])) w' := by
  have hnr := hL
  refine ⟨⟨k.os.trans h.on.os, k.tape.trans h.on.tape, k.output.trans h.on.output, Nat.le_trans h.on.size k.size, fun i hi hn => (k.block i (Nat.lt_of_lt_of_le hi h.on.size) (fun e => hn (.inr e))).trans (h.on.block i hi hn)⟩, fun hs => ?_, fun hs => ?_, fun _ => ⟨upd_same _ _ _, hm⟩, fun hs => ?_, fun hs => ?_⟩
  · obtain ⟨g, e1, e2, e3⟩ := h.lit (by rwa [seen_at (by decide)] at hs)
    exact ⟨g, by rw [upd_ne V _ (by decide)]; exact e1, e2, e3.only k (by omega)⟩
  · simp at hs
  · have hr := h.row0 (by rwa [seen_at (by decide)] at hs)
    exact hr.only k (fun g hg e => hnr.notRow hr (e ▸ hg))
  · obtain ⟨e1, e2⟩ := h.row1 (by rwa [seen_at (by decide)] at hs)
    rw [upd_ne V _ (by decide)]
    exact ⟨e1.only k (fun g hg e => hnr.notRow e1 (e ▸ hg)), e2⟩
theorem WtI.push {v : Value} (h : WtI w1 bb L p n r l born s V w) (hbb : bb < w1.heap.size) (hrl : ∀ b, r.ownBlock = some b → b < w1.heap.size) (k : w.grownBy w' r.ownBlock) (hv : OwnI 0 25 v (l ++ [n]) w') (hl : v.ownBlock = r.ownBlock ∨ v.ownBlock = some w.heap.size) (hbr : r.ownBlock ≠ some bb) : WtI w1 bb L p n r l born (fun i => s i || i == 9) (upd V 9 v) w' := by
  have ko : Only (fun b => r.ownBlock = some b) w w' := (Only.refl _ w).grown k (fun b hb => .inl hb)
  refine ⟨⟨ko.os.trans h.on.os, ko.tape.trans h.on.tape, ko.output.trans h.on.output, Nat.le_trans h.on.size ko.size, fun i hi hn => (ko.block i (Nat.lt_of_lt_of_le hi h.on.size) (fun e => hn (.inl e))).trans (h.on.block i hi hn)⟩, fun hs => ?_, fun hs => ?_, fun hs => ?_, fun hs => ?_, fun _ => ?_⟩
  · obtain ⟨g, e1, e2, e3⟩ := h.lit (by rwa [seen_at (by decide)] at hs)
    exact ⟨g, by rw [upd_ne V _ (by decide)]; exact e1, e2, e3.only ko (fun e => by have := hrl g e; omega)⟩
  · exact (ko.block bb (Nat.lt_of_lt_of_le hbb h.on.size) hbr).trans (h.map0 (by rwa [seen_at (by decide)] at hs))
  · obtain ⟨e1, e2⟩ := h.map1 (by rwa [seen_at (by decide)] at hs)
    exact ⟨by rw [upd_ne V _ (by decide)]; exact e1, e2.only ko hbr⟩
  · simp at hs
  · rw [upd_same]
    exact ⟨hv, Moved.of hl h.on.size⟩
theorem op_lit_blk {o : Oper} {a : Act} {w : World} {K : Act → World → Prop} {Q : Exit → Act → World → Prop} (hg : o.guard = Option.none) (z : Operand) (t : TypeId) (ht : Tryz.prog.underlying t = some (.slice 25)) (ho : o.op = .buildSlice t 1 #[(0, z)]) (y : List Nat) (hy : y.length = 32) (hz : a.eval z = .agg (nums .u8 y).toArray)
    (h : ∀ w', Below w.heap.size w w' → Blk w.heap.size 25 .u8 y w' → K (a.put o.dst (.slice (some ⟨w.heap.size, 0, Option.none⟩) 1 1)) w') : OpWp Tryz.prog o a w K Q :=
  op_of_list (ops := #[]) hg (wpList_build_id hg t 25 z ho y hz hy ht Tryz.infoI32 (fun w' h1 h2 => ⟨rfl, h w' h2.out h1.out⟩))
end
end Go.Proofs.YtandadfphlandaaGreatDoor
