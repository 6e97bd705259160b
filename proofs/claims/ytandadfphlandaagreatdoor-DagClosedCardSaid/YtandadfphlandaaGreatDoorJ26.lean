/-
  Joined: The developers' Next. Written by dag/gen/gen_nx.py.; The document's In; names compared (Ids of layer 9).; The law package's same: two sets of one state, the developers' and the document's.; YtandadfphlandaaGreatDoorAlM; What the laws of layer 10 ask first: alive.; The table of the round constants, laid; what a law's arguments are.
-/
import Derived.Deep.DeepHandedRow
import Derived.Lib.LaidTab
import Derived.Test.YtandadfphlandaaGreatDoorCards
import Derived.Test.YtandadfphlandaaGreatDoorTie
import Derived.Test.YtandadfphlandaaGreatDoorJ05
import Derived.Test.YtandadfphlandaaGreatDoorJ07
import Derived.Test.YtandadfphlandaaGreatDoorJ08
import Derived.Test.YtandadfphlandaaGreatDoorJ09
import Derived.Test.YtandadfphlandaaGreatDoorJ20
import Derived.Test.YtandadfphlandaaGreatDoorJ25
namespace Go.Proofs.YtandadfphlandaaGreatDoor
open Go.RowKit Go.BigFrame
theorem built_all (o : OpN) (hr : o.d.ref.length = 32) (pa : Option Addr) (pc : Nat) : Tryz.prog.built 38 [(0, .agg (draftV o.d)), (1, .int .i64 o.author), (2, .int .i64 o.depth), (3, .slice pa o.preds.length pc)] = some (opV o pa pc) := by
  rw [op_fill]
  refine (fill_lay placeO 0 0 35 _ _ [] (draftL zeroD) [.int .i64 0, .int .i64 0, .slice none 0 0] (draftL o.d) rfl rfl (draftL_len hr) rfl rfl).trans ?_
  refine (fill_lay placeO 1 35 1 _ _ (draftL o.d) [.int .i64 0] [.int .i64 0, .slice none 0 0] [.int .i64 o.author] rfl rfl rfl rfl (draftL_len hr)).trans ?_
  show Instr.fill _ (draftL o.d ++ ([Value.int .i64 o.author] ++ ([Value.int .i64 0] ++ [Value.slice none 0 0]))).toArray _ = _
  rw [← List.append_assoc]
  refine ((fill_lay placeO 2 36 1 (.int .i64 o.depth) _ (draftL o.d ++ [.int .i64 o.author]) [.int .i64 0] [.slice none 0 0] [.int .i64 o.depth] rfl rfl rfl rfl (by rw [List.length_append, draftL_len hr]; rfl)).trans ?_)
  show Instr.fill _ (draftL o.d ++ [Value.int .i64 o.author] ++ ([Value.int .i64 o.depth] ++ ([Value.slice none 0 0] ++ []))).toArray _ = _
  rw [← List.append_assoc]
  refine ((fill_lay placeO 3 37 1 (.slice pa o.preds.length pc) [] (draftL o.d ++ [.int .i64 o.author] ++ [.int .i64 o.depth]) [.slice none 0 0] [] [.slice pa o.preds.length pc] rfl rfl rfl rfl (by rw [List.length_append, List.length_append, draftL_len hr]; rfl)).trans ?_)
  rw [fill_end, opV, opL]
  simp
set_option maxRecDepth 100000 in
theorem dev_next_nil (A : Int) (d : DraftN) (w : World) : Calls Tryz.prog 14 #[.pointer none, .int .i64 A, .agg (draftV d)] w fun e w' => e = .returned (.tuple #[.agg (opV zeroO none 0), .int .i64 2]) ∧ Below w.heap.size w w' := by
  have HS := Lib.hid (show (Tryz.prog.info? 38).map (·.size) = some (opV zeroO none 0).size from Tryz.sizeO)
  have x1 : Cells w.heap.size 27 (draftV d) (w.alloc (.cells (draftV d) 27)) := heap_alloc_new w _
  have b1 : Below w.heap.size w (w.alloc (.cells (draftV d) 27)) := (Below.refl _ _).alloc (Nat.le_refl _) _
  have s1 : (w.alloc (.cells (draftV d) 27)).heap.size = w.heap.size + 1 := World.size_alloc _ _
  have b2 : Below (w.alloc (.cells (draftV d) 27)).heap.size (w.alloc (.cells (draftV d) 27)) ((w.alloc (.cells (draftV d) 27)).alloc (.cells (opV zeroO none 0) 38)) := (Below.refl _ _).alloc (Nat.le_refl _) _
  have x2 : Cells (w.alloc (.cells (draftV d) 27)).heap.size 38 (opV zeroO none 0) ((w.alloc (.cells (draftV d) 27)).alloc (.cells (opV zeroO none 0) 38)) := heap_alloc_new _ _
  rw [s1] at x2
  have y1 := x1.below b2
  have hb2 := b1.trans (b2.mono b1.size)
  clear x1 b1 s1 b2
  go_enter Tryz.func14, Tryz.ntmps14
  go_upto_region 1 with (fail)
  obtain ⟨w2, hw2⟩ : ∃ x, x = (w.alloc (.cells (draftV d) 27)).alloc (.cells (opV zeroO none 0) 38) := ⟨_, rfl⟩
  rw [← hw2] at x2 y1 hb2
  rw [zeroO_lit] at hw2
  rw [← hw2]
  have HX := Lib.hid x2
  have HY := Lib.hid y1
  have HB := Lib.hid hb2
  clear hw2 x2 y1 hb2
  go_upto_region 2 with (fail)
  refine wp_region_lit ?_
  refine wpList_build_val rfl 38 #[] rfl [] _ (by simp) built_op0 ?_
  simp only [Act.put, List.setIfInBounds_toArray, List.set_cons_zero, List.set_cons_succ]
  refine wpList_store_cells rfl 38 _ _ rfl rfl (w.heap.size + 1) (opV zeroO none 0) (opV zeroO none 0) 38 rfl rfl HX.out HS.out rfl (opV_all zeroO none 0) ?_
  intro w9 hc hb
  have HX9 := Lib.hid hc.out
  have HB9 := Lib.hid (show Below w.heap.size w w9 from But.toBelow HB.out hb.out (Nat.le_succ _) HB.out.size)
  clear hc hb HX HB HY
  go_wp2_with fail
  refine bodyPost_ret (results_cells_tmp rfl _ _ (w.heap.size + 1) (opV zeroO none 0) 38 _ _ rfl rfl HX9.out Tryz.underlying38 rfl HS.out) rfl ?_
  exact ⟨rfl, HB9.out⟩
set_option maxHeartbeats 8000000 in
set_option maxRecDepth 100000 in
theorem dev_next (X : Nat → Prop) (B : Bs) (T : Ents) (s : DagN) (hs : List (List Nat)) (M : Bh) (A : Int) (d : DraftN) (w : World) (h : SetAt X B T s hs M w) (hD : DInv s hs M [] []) (hd : IdOk d.ref) (hk : d.key.length ≤ 140737488351232) (hv : d.val.length ≤ 140737488351232) (ht : Tame s) :
    Calls Tryz.prog 14 #[.pointer (some ⟨B.gs, 0, none⟩), .int .i64 A, .agg (draftV d)] w fun e w' => NextPost w.heap.size (nextN' s A d) e w' ∧ Below w.heap.size w w' := by
  have HS := Lib.hid (show (Tryz.prog.info? 38).map (·.size) = some (opV zeroO none 0).size from Tryz.sizeO)
  have x1 : Cells w.heap.size 27 (draftV d) (w.alloc (.cells (draftV d) 27)) := heap_alloc_new w _
  have b1 : Below w.heap.size w (w.alloc (.cells (draftV d) 27)) := (Below.refl _ _).alloc (Nat.le_refl _) _
  have s1 : (w.alloc (.cells (draftV d) 27)).heap.size = w.heap.size + 1 := World.size_alloc _ _
  have b2 : Below (w.alloc (.cells (draftV d) 27)).heap.size (w.alloc (.cells (draftV d) 27)) ((w.alloc (.cells (draftV d) 27)).alloc (.cells (opV zeroO none 0) 38)) := (Below.refl _ _).alloc (Nat.le_refl _) _
  have x2 : Cells (w.alloc (.cells (draftV d) 27)).heap.size 38 (opV zeroO none 0) ((w.alloc (.cells (draftV d) 27)).alloc (.cells (opV zeroO none 0) 38)) := heap_alloc_new _ _
  rw [s1] at x2
  have y1 := x1.below b2
  have hb2 := b1.trans (b2.mono b1.size)
  have HSD := Lib.hid (show (Tryz.prog.info? 27).map (·.size) = some (draftV d).size by rw [draftV_size hd.1]; exact Tryz.sizeD)
  have HGD := Lib.hid (fun w' => dev_goodDraft d hd hk hv w')
  have HST := Lib.hid (fun w' (b : Below w.heap.size w w') => h.below b)
  have HDI := Lib.hid hD
  have HD := Lib.hid hd
  have HTM := Lib.hid ht
  have HHL := Shut.mk (show (headsN s).length = hs.length from heads_len hD)
  have hln : hs.length ≤ 1000 := by
    rw [(heads_perm hD).length_eq]
    exact Nat.le_trans (List.length_filter_le _ _) (by rw [DagN.names, List.length_map]; have := ht.many; omega)
  have HLN := Lib.hid hln
  clear h hD hd hk hv ht x1 b1 s1 b2 hln
  go_enter Tryz.func14, Tryz.ntmps14
  go_upto_region 1 with (fail)
  obtain ⟨w2, hw2⟩ : ∃ x, x = (w.alloc (.cells (draftV d) 27)).alloc (.cells (opV zeroO none 0) 38) := ⟨_, rfl⟩
  rw [← hw2] at x2 y1 hb2
  rw [zeroO_lit] at hw2
  rw [← hw2]
  have HX := Lib.hid x2
  have HY := Lib.hid y1
  have HB := Lib.hid hb2
  clear hw2 x2 y1 hb2
  go_wp2_with (first
    | (refine wpList_load_cells rfl 27 (.tmp 5) rfl w.heap.size (draftV d) 27 _ rfl HY.out Tryz.underlying27 rfl HSD.out ?_))
  refine (HGD.out w2).mono ?_
  rintro e w3 ⟨rfl, hb3⟩
  have HX3 := Lib.hid (HX.out.below hb3)
  have HX3L := Lib.hid HX3.out.lt
  have HY3 := Lib.hid (HY.out.below hb3)
  have HB3 := Lib.hid (HB.out.trans (hb3.mono HB.out.size))
  clear hb3 HX HY HB HGD
  by_cases hg : GoodD d ∧ 0 ≤ A ∧ A ≤ 4
  · rw [decide_eq_true hg.1]
    obtain ⟨hg1, hg2, hg3⟩ := hg
    have HGG := Lib.hid (show ¬ (¬ GoodD d ∨ A < 0 ∨ 4 < A) by rintro (h | h | h) <;> first | exact h hg1 | omega)
    have hg4 : ¬ 5 ≤ A := by omega
    have hg5 : ¬ A < 0 := by omega
    have c2 := (HST.out w3 HB3.out).cell.2.2.1
    have HM := Lib.hid (HST.out w3 HB3.out).hm
    obtain ⟨HE, hHE⟩ : ∃ HE, headE hs = HE := ⟨_, rfl⟩
    have hhl : HE.length = hs.length := by rw [← hHE, headE, List.length_map]
    rw [hHE] at HM
    clear hHE hg1
    by_cases hlong : 32 < hs.length
    · have HR := Shut.mk (show nextN' s A d = (none, 3) by rw [nextN', if_neg HGG.out, if_pos (by rw [HHL.out]; exact hlong)])
      have hl1 : (32 : Int) < (hs.length : Int) := by omega
      rw [← hhl] at hl1
      clear hlong hhl
      go_upto_region 6 with (refine wpList_len_id rfl _ _ 25 77 rfl Tryz.underlying62 B.h HE HM.out rfl ?_)
      clear c2
      refine wp_region_lit ?_
      refine wpList_build_val rfl 38 #[] rfl [] _ (by simp) built_op0 ?_
      simp only [Act.put, List.setIfInBounds_toArray, List.set_cons_zero, List.set_cons_succ]
      refine wpList_store_cells rfl 38 _ _ rfl rfl (w.heap.size + 1) (opV zeroO none 0) (opV zeroO none 0) 38 rfl rfl HX3.out HS.out rfl (opV_all zeroO none 0) ?_
      intro w9 hc hb
      have HX9 := Lib.hid hc.out
      have HB9 := Lib.hid (show Below w.heap.size w w9 from But.toBelow HB3.out hb.out (Nat.le_succ _) HB3.out.size)
      clear hc hb HX3 HB3
      go_wp2_with fail
      refine bodyPost_ret (results_cells_tmp rfl _ _ (w.heap.size + 1) (opV zeroO none 0) 38 _ _ rfl rfl HX9.out Tryz.underlying38 rfl HS.out) rfl ?_
      exact ⟨by rw [HR.out]; exact ⟨none, 0, rfl, .inl rfl, fun a h => by cases h⟩, HB9.out⟩
    · have HR := Shut.mk (show nextN' s A d = (some ⟨d, A, maxD s.ops (headsN s) + 1, headsN s⟩, 0) by rw [nextN', if_neg HGG.out, if_neg (by rw [HHL.out]; exact hlong)])
      have hl1 : ¬ (32 : Int) < (hs.length : Int) := by omega
      rw [← hhl] at hl1
      have HHC := Lib.hid (dev_heads (HST.out w3 HB3.out) HDI.out (by have := HTM.out.many; omega))
      obtain ⟨H, hH⟩ : ∃ H, headsN s = H := ⟨_, rfl⟩
      have HHI := Lib.hid (show Ids H from hH ▸ risingN_ids (L := s.names.filter fun n => !(s.ops.any fun o => decide (n ∈ o.preds))) (fun x hx => names_ok x (List.mem_filter.1 hx).1))
      rw [hH] at HR HHC HHL
      clear hlong hhl hH
      go_wp2_with (first
        | (refine wpList_len_id rfl _ _ 25 77 rfl Tryz.underlying62 B.h HE HM.out rfl ?_)
        | (refine HHC.out.mono ?_; rintro e w4 ⟨v, rfl, ho, hb4⟩))
      have HB4 := Lib.hid (HB3.out.trans (hb4.mono HB3.out.size))
      have HX4 := Lib.hid (HX3.out.below hb4)
      have HY4 := Lib.hid (HY3.out.below hb4)
      obtain ⟨ah, ch, rfl⟩ := ho.form
      have HO4 := Lib.hid ho
      have HDP := Lib.hid (fun w' (b : Below w4.heap.size w4 w') => dev_depth X B T s hs M H ah H.length ch w' (HST.out w' (HB4.out.trans (b.mono HB4.out.size))) HHI.out ((ho.below b).at HHI.out) rfl (by have := HHL.out; have := HLN.out; omega) (fun x hx => (HTM.out.ops x hx).d.ref.1) HTM.out.shallow (by have := HTM.out.many; omega))
      have HYC := Lib.hid (fun w' (b : Below w4.heap.size w4 w') => HY4.out.below b)
      obtain ⟨De, hDe⟩ : ∃ q, maxD s.ops H + 1 = q := ⟨_, rfl⟩
      rw [hDe] at HR HDP
      have HBL := Lib.hid (built_all ⟨d, A, De, H⟩ HD.out.1 ah ch)
      have HSV := Lib.hid (show (Tryz.prog.info? 38).map (·.size) = some (opV ⟨d, A, De, H⟩ ah ch).size by rw [opV_size HD.out.1]; exact Tryz.sizeO)
      have HSZ := Lib.hid (show (opV zeroO none 0).size = (opV ⟨d, A, De, H⟩ ah ch).size by rw [opV_size (o := ⟨d, A, De, H⟩) HD.out.1]; rfl)
      clear hDe ho hb4 HX3 HY3 HM c2 hg2 hg3 hg4 hg5 hl1
      obtain ⟨z9, hz9⟩ : ∃ z, (decide (A < 0) || decide (5 ≤ A)) = z := ⟨_, rfl⟩
      refine wp_region_class_tail (fun w' => Below w4.heap.size w4 w') 7 (by kernel_rfl) (by kernel_rfl) (Below.refl _ _).drew ?_
      simp only [List.take_succ_cons, List.take_zero, List.drop_succ_cons, List.drop_zero]
      repeat (first
        | (go_big_quiet_want; refine quiet_load_cells 27 _ rfl w.heap.size (draftV d) 27 _ rfl HYC.out Tryz.underlying27 rfl HSD.out ?_; go_big_quiet_on; simp only [Act.put, List.setIfInBounds_toArray, List.set_cons_zero, List.set_cons_succ])
        | (go_big_quiet_want; refine quiet_build_val 38 _ rfl [(0, .agg (draftV d)), (1, .int .i64 A), (2, .int .i64 De), (3, .slice ah H.length ch)] (opV ⟨d, A, De, H⟩ ah ch) (by rw [List.map_toArray]; rfl) HBL.out ?_; go_big_quiet_on; simp only [Act.put, List.setIfInBounds_toArray, List.set_cons_zero, List.set_cons_succ])
        | go_big_quiet_step ((intro hs'; first
            | (go_at_call 42; exact (HDP.out _ hs').mono fun e w' h => ⟨h.1, hs'.trans (h.2.mono hs'.size)⟩)
            | rfl)))
      refine wpQuiet_nil ?_
      intro w5 hs5
      have HX5 := Lib.hid (HX4.out.below hs5)
      have HB5 := Lib.hid (HB4.out.trans (hs5.mono HB4.out.size))
      have HO5 := Lib.hid (HO4.out.below hs5)
      clear hs5 HX4 HY4 HO4 HYC HDP
      refine wpList_store_cells rfl 38 _ _ rfl rfl (w.heap.size + 1) (opV zeroO none 0) (opV ⟨d, A, De, H⟩ ah ch) 38 rfl rfl HX5.out HSV.out HSZ.out (opV_all _ ah ch) ?_
      intro w9 hc hb
      have HX9 := Lib.hid hc.out
      have HB9 := Lib.hid (show Below w.heap.size w w9 from But.toBelow HB5.out hb.out (Nat.le_succ _) HB5.out.size)
      have HO9 := Lib.hid (HO5.out.but hb.out (fun k hk e => by
        have h1 := (World.ownsRow.lt HO5.out k hk).1
        have h2 := HX3L.out
        omega))
      clear hc hb HX5 HB5
      go_wp2_with fail
      refine bodyPost_ret (results_cells_tmp rfl _ _ (w.heap.size + 1) (opV ⟨d, A, De, H⟩ ah ch) 38 _ _ rfl rfl HX9.out Tryz.underlying38 rfl HSV.out) rfl ?_
      exact ⟨by rw [HR.out]; exact ⟨ah, ch, rfl, HO9.out.at HHI.out, fun a h => (by
        have h1 := (World.ownsRow.lt HO9.out a.block (by subst h; rfl)).1
        exact Nat.le_trans HB3.out.size h1)⟩, HB9.out⟩
  · have HR := Shut.mk (show nextN' s A d = (none, 1) by
      rw [nextN', if_pos]
      by_cases h1 : GoodD d
      · rcases Int.lt_or_le A 0 with h2 | h2
        · exact .inr (.inl h2)
        · refine .inr (.inr ?_)
          rcases Int.lt_or_le 4 A with h3 | h3
          · exact h3
          · exact absurd ⟨h1, h2, h3⟩ hg
      · exact .inl h1)
    obtain ⟨gb, hgb⟩ : ∃ gb, decide (GoodD d) = gb := ⟨_, rfl⟩
    have HCA := Lib.hid (show gb = true → 0 ≤ A → 5 ≤ A from fun h1 h2 => by
      have h1' : GoodD d := of_decide_eq_true (hgb.trans h1)
      rcases Int.lt_or_le 4 A with h3 | h3
      · omega
      · exact absurd ⟨h1', h2, h3⟩ hg)
    rw [hgb]
    clear hg hgb
    cases gb with
    | false =>
      go_upto_region 4 with (fail)
      refine wp_region_lit ?_
      refine wpList_build_val rfl 38 #[] rfl [] _ (by simp) built_op0 ?_
      simp only [Act.put, List.setIfInBounds_toArray, List.set_cons_zero, List.set_cons_succ]
      refine wpList_store_cells rfl 38 _ _ rfl rfl (w.heap.size + 1) (opV zeroO none 0) (opV zeroO none 0) 38 rfl rfl HX3.out HS.out rfl (opV_all zeroO none 0) ?_
      intro w9 hc hb
      have HX9 := Lib.hid hc.out
      have HB9 := Lib.hid (show Below w.heap.size w w9 from But.toBelow HB3.out hb.out (Nat.le_succ _) HB3.out.size)
      clear hc hb HX3 HB3
      go_wp2_with fail
      refine bodyPost_ret (results_cells_tmp rfl _ _ (w.heap.size + 1) (opV zeroO none 0) 38 _ _ rfl rfl HX9.out Tryz.underlying38 rfl HS.out) rfl ?_
      exact ⟨by rw [HR.out]; exact ⟨none, 0, rfl, .inl rfl, fun a h => by cases h⟩, HB9.out⟩
    | true =>
      by_cases hA : A < 0
      · go_upto_region 4 with (fail)
        refine wp_region_lit ?_
        refine wpList_build_val rfl 38 #[] rfl [] _ (by simp) built_op0 ?_
        simp only [Act.put, List.setIfInBounds_toArray, List.set_cons_zero, List.set_cons_succ]
        refine wpList_store_cells rfl 38 _ _ rfl rfl (w.heap.size + 1) (opV zeroO none 0) (opV zeroO none 0) 38 rfl rfl HX3.out HS.out rfl (opV_all zeroO none 0) ?_
        intro w9 hc hb
        have HX9 := Lib.hid hc.out
        have HB9 := Lib.hid (show Below w.heap.size w w9 from But.toBelow HB3.out hb.out (Nat.le_succ _) HB3.out.size)
        clear hc hb HX3 HB3
        go_wp2_with fail
        refine bodyPost_ret (results_cells_tmp rfl _ _ (w.heap.size + 1) (opV zeroO none 0) 38 _ _ rfl rfl HX9.out Tryz.underlying38 rfl HS.out) rfl ?_
        exact ⟨by rw [HR.out]; exact ⟨none, 0, rfl, .inl rfl, fun a h => by cases h⟩, HB9.out⟩
      · have h5 := HCA.out rfl (by omega)
        go_upto_region 4 with (fail)
        refine wp_region_lit ?_
        refine wpList_build_val rfl 38 #[] rfl [] _ (by simp) built_op0 ?_
        simp only [Act.put, List.setIfInBounds_toArray, List.set_cons_zero, List.set_cons_succ]
        refine wpList_store_cells rfl 38 _ _ rfl rfl (w.heap.size + 1) (opV zeroO none 0) (opV zeroO none 0) 38 rfl rfl HX3.out HS.out rfl (opV_all zeroO none 0) ?_
        intro w9 hc hb
        have HX9 := Lib.hid hc.out
        have HB9 := Lib.hid (show Below w.heap.size w w9 from But.toBelow HB3.out hb.out (Nat.le_succ _) HB3.out.size)
        clear hc hb HX3 HB3
        go_wp2_with fail
        refine bodyPost_ret (results_cells_tmp rfl _ _ (w.heap.size + 1) (opV zeroO none 0) 38 _ _ rfl rfl HX9.out Tryz.underlying38 rfl HS.out) rfl ?_
        exact ⟨by rw [HR.out]; exact ⟨none, 0, rfl, .inl rfl, fun a h => by cases h⟩, HB9.out⟩
theorem dev_take_nil (x : OpN) (pa : Option Addr) (pc : Nat) (w : World) : Calls Tryz.prog 10 #[.pointer none, .agg (opV x pa pc)] w fun e w' => e = .returned (.tuple #[.slice none 0 0, .int .i64 2]) ∧ Below w.heap.size w w' := by
  go_enter Tryz.func10, Tryz.ntmps10
  go_wp2_with fail
  go_ret2
  exact ⟨rfl, (Below.refl _ _).alloc (Nat.le_refl _) _⟩
end Go.Proofs.YtandadfphlandaaGreatDoor
namespace Go.Proofs.YtandadfphlandaaGreatDoor
open Go.RowKit Go.BigFrame
set_option maxHeartbeats 2000000 in
set_option maxRecDepth 100000 in
theorem ref_in (ao : Option Addr) (cap m : Nat) (L : List (List Nat)) (n : List Nat) (w : World) (hat : IAt ao L w) (hL : Ids L) (hme : L.length = m) (hn : n.length = 32) (hnl : ∀ y ∈ n, y < 256) (hm : m ≤ 1000000) :
    Calls Tryz.prog 24 #[.slice ao m cap, .agg (nums .u8 n).toArray] w fun e w' => e = .returned (.bool (decide (n ∈ L))) ∧ Below w.heap.size w w' := by
  have HM := Shut.mk hme
  have HL := Lib.hid hL
  have b1 : Below w.heap.size w (w.alloc (.cells (nums .u8 n).toArray 25)) := (Below.refl _ _).alloc (Nat.le_refl _) _
  have x1 : Blk w.heap.size 25 .u8 n (w.alloc (.cells (nums .u8 n).toArray 25)) := heap_alloc_new w _
  have HB := Lib.hid b1
  have HX := Lib.hid x1
  have HAT := Lib.hid (hat.below b1)
  have HN := Lib.hid hn
  have HNL := Lib.hid hnl
  have HSN := Lib.hid (show (Tryz.prog.info? 25).map (·.size) = some n.length by rw [hn]; exact Tryz.sizeI)
  clear hL hat hme b1 x1 hn hnl
  go_enter Tryz.func24, Tryz.ntmps24
  go_upto_region 1 with (fail)
  obtain ⟨w1, hw1⟩ : ∃ x, x = w.alloc (.cells (nums .u8 n).toArray 25) := ⟨_, rfl⟩
  rw [← hw1] at HB HX HAT ⊢
  clear hw1
  go_wp2_with fail
  go_loopw [9] (fun i wr => ∃ k : Nat, k ≤ m ∧ i = .int .i64 k ∧ (∀ j, j < k → L.getD j [] ≠ n) ∧ Below w1.heap.size w1 wr) (fun i _ => m - (intOf i).toNat)
  case atStart => exact ⟨0, Nat.zero_le _, rfl, fun j hj => by omega, Below.refl _ _⟩
  case round =>
    obtain ⟨k, hk, rfl, hj, hbw⟩ := hrel
    have HJ := Lib.hid hj
    have HBW := Lib.hid hbw
    have HXW := Lib.hid (HX.out.below hbw)
    have HATW := Lib.hid (HAT.out.below hbw)
    clear hj hbw
    by_cases hlt : k < m
    · obtain ⟨b, ob, rfl, hbl⟩ := HATW.out.some (by rw [HM.out]; omega)
      have g1 := HATW.out.get (i := k) (by rw [HM.out]; omega)
      have i1 := Ids.getD HL.out (i := k) (by rw [HM.out]; omega)
      obtain ⟨x, hx⟩ : ∃ x, L.getD k [] = x := ⟨_, rfl⟩
      rw [hx] at g1 i1
      have HXE := Shut.mk hx
      have HG1 := Lib.hid g1
      have HS1 := Lib.hid (show (Tryz.prog.info? 25).map (·.size) = some x.length by rw [i1.1]; exact Tryz.sizeI)
      have HL2 := Lib.hid (show (List.replicate 32 0).length = x.length by rw [i1.1]; rfl)
      have HEQ := Lib.hid (fun w' => equal_idI x n i1.1 HN.out i1.2 HNL.out w')
      have HXL := Lib.hid i1.1
      have hxw := HXW.out.lt
      have hgw : w.heap.size ≠ wr.heap.size := by omega
      clear hx g1 i1 hbl hxw
      go_wp2_with (first
        | (refine wpList_load_id rfl 25 _ rfl b (ob + k * 32) x _ rfl HG1.out Tryz.underlying25 rfl HS1.out ?_)
        | (refine wpList_store_nums rfl 25 _ _ rfl rfl wr.heap.size .u8 (List.replicate 32 0) x 25 rfl rfl (heap_alloc_new wr _) HS1.out HL2.out ?_))
      intro w5 hc' hb'
      have HY := Lib.hid hc'.out
      have HX5 := Lib.hid ((HXW.out.alloc _).but hb'.out hgw)
      have HB5 := Lib.hid (show Below w1.heap.size w1 w5 from But.toBelow (HBW.out.alloc HBW.out.size _) hb'.out HBW.out.size (Nat.le_trans HBW.out.size (by rw [World.size_alloc]; exact Nat.le_succ _)))
      clear hc' hb' HL2 hgw
      have heq := HEQ.out
      have hs1 := HS1.out
      obtain ⟨z, hz⟩ : ∃ z, (x == n) = z := ⟨_, rfl⟩
      rw [hz] at heq
      have HZ := Shut.mk hz
      clear hz HEQ
      cases z with
      | true =>
        have HR := Shut.mk (show decide (n ∈ L) = true from decide_eq_true (by rw [show n = L.getD k [] by rw [HXE.out]; exact (by have := HZ.out; simpa using this : x = n).symm, List.getD_eq_getElem?_getD, List.getElem?_eq_getElem (by rw [HM.out]; exact hlt)]; exact List.getElem_mem _))
        go_wp2_with (first
          | (refine wpList_load_nums rfl 25 (.tmp 6) rfl wr.heap.size .u8 _ 25 _ rfl HY.out Tryz.underlying25 rfl HS1.out ?_)
          | (refine wpList_load_nums rfl 25 (.tmp 3) rfl w.heap.size .u8 _ 25 _ rfl HX5.out Tryz.underlying25 rfl HSN.out ?_))
        go_ret
        exact ⟨by rw [HR.out]; rfl, HB.out.trans (HB5.out.mono HB.out.size)⟩
      | false =>
        have HNE := Lib.hid (show x ≠ n by have := HZ.out; simpa using this)
        go_wp2_with (first
          | (refine wpList_load_nums rfl 25 (.tmp 6) rfl wr.heap.size .u8 _ 25 _ rfl HY.out Tryz.underlying25 rfl HS1.out ?_)
          | (refine wpList_load_nums rfl 25 (.tmp 3) rfl w.heap.size .u8 _ 25 _ rfl HX5.out Tryz.underlying25 rfl HSN.out ?_))
        refine ⟨⟨k + 1, by omega, by go_num, fun q hq => ?_, HB5.out⟩, by simp [intOf]; omega⟩
        by_cases hqj : q = k
        · subst hqj
          rw [HXE.out]
          exact HNE.out
        · exact HJ.out q (by omega)
    · obtain rfl : k = m := by omega
      have HR := Shut.mk (show decide (n ∈ L) = false from decide_eq_false (atN_not (fun j hj => HJ.out j (by rw [← HM.out]; exact hj))).2)
      go_wp2_with fail
      go_ret
      exact ⟨by rw [HR.out]; rfl, HB.out.trans (HBW.out.mono HB.out.size)⟩
theorem ids_eq {A B : List (List Nat)} (hl : A.length = B.length) (h : ∀ j, j < A.length → A.getD j [] = B.getD j []) : A = B := by
  refine List.ext_getElem hl fun i h1 h2 => ?_
  have := h i h1
  rwa [List.getD_eq_getElem?_getD, List.getElem?_eq_getElem h1, List.getD_eq_getElem?_getD, List.getElem?_eq_getElem h2] at this
set_option maxHeartbeats 2000000 in
set_option maxRecDepth 100000 in
theorem ref_ids (ao bo : Option Addr) (ca cb m k0 : Nat) (A B : List (List Nat)) (w : World) (ha : IAt ao A w) (hb : IAt bo B w) (hA : Ids A) (hB : Ids B) (hma : A.length = m) (hmb : B.length = k0) (hm : m ≤ 1000000) (hk0 : k0 ≤ 1000000) :
    Calls Tryz.prog 12 #[.slice ao m ca, .slice bo k0 cb] w fun e w' => e = .returned (.bool (decide (A = B))) ∧ Below w.heap.size w w' := by
  by_cases hne : m = k0
  · subst hne
    have HMA := Shut.mk hma
    have HMB := Shut.mk hmb
    have HA := Lib.hid ha
    have HB := Lib.hid hb
    have HIA := Lib.hid hA
    have HIB := Lib.hid hB
    have hbq : ((m : Int) != (m : Int)) = false := by simp
    clear ha hb hA hB hma hmb
    go_enter Tryz.func12, Tryz.ntmps12
    go_wp2_with fail
    go_loopw [13] (fun i wr => ∃ k : Nat, k ≤ m ∧ i = .int .i64 k ∧ (∀ j, j < k → A.getD j [] = B.getD j []) ∧ Below w.heap.size w wr) (fun i _ => m - (intOf i).toNat)
    case atStart => exact ⟨0, Nat.zero_le _, rfl, fun j hj => by omega, Below.refl _ _⟩
    case round =>
      obtain ⟨k, hk, rfl, hj, hbw⟩ := hrel
      have HJ := Lib.hid hj
      have HBW := Lib.hid hbw
      have HAW := Lib.hid (HA.out.below hbw)
      have HBB := Lib.hid (HB.out.below hbw)
      clear hj hbw
      by_cases hlt : k < m
      · obtain ⟨b, ob, rfl, hbl⟩ := HAW.out.some (by rw [HMA.out]; omega)
        obtain ⟨c, oc, rfl, hcl⟩ := HBB.out.some (by rw [HMB.out]; omega)
        have g1 := fun w' (q : Below wr.heap.size wr w') => (HAW.out.below q).get (i := k) (by rw [HMA.out]; omega)
        have g2 := fun w' (q : Below wr.heap.size wr w') => (HBB.out.below q).get (i := k) (by rw [HMB.out]; omega)
        have i1 := Ids.getD HIA.out (i := k) (by rw [HMA.out]; omega)
        have i2 := Ids.getD HIB.out (i := k) (by rw [HMB.out]; omega)
        obtain ⟨x, hx⟩ : ∃ x, A.getD k [] = x := ⟨_, rfl⟩
        obtain ⟨y, hy⟩ : ∃ y, B.getD k [] = y := ⟨_, rfl⟩
        rw [hx] at g1 i1
        rw [hy] at g2 i2
        have HXE := Shut.mk hx
        have HYE := Shut.mk hy
        have HG1 := Lib.hid g1
        have HG2 := Lib.hid g2
        have HS1 := Lib.hid (show (Tryz.prog.info? 25).map (·.size) = some x.length by rw [i1.1]; exact Tryz.sizeI)
        have HS2 := Lib.hid (show (Tryz.prog.info? 25).map (·.size) = some y.length by rw [i2.1]; exact Tryz.sizeI)
        have heq := fun w' => equal_idI x y i1.1 i2.1 i1.2 i2.2 w'
        obtain ⟨z, hz⟩ : ∃ z, (x == y) = z := ⟨_, rfl⟩
        rw [hz] at heq
        have HZ := Shut.mk hz
        clear hx hy g1 g2 i1 i2 hbl hcl hz
        go_upto_region 6 with (fail)
        cases z with
        | true =>
          have HEQ := Lib.hid (show x = y by have := HZ.out; simpa using this)
          refine wp_region_class (fun w' => Below wr.heap.size wr w') (by kernel_rfl) (by kernel_rfl) (Below.refl _ _).drew ?_
          repeat (first
            | (go_big_quiet_want; refine quiet_load_id 25 _ rfl b (ob + k * 32) x _ rfl HG1.out Tryz.underlying25 rfl HS1.out ?_; go_big_quiet_on; simp only [Act.put, List.setIfInBounds_toArray, List.set_cons_zero, List.set_cons_succ])
            | (go_big_quiet_want; refine quiet_load_id 25 _ rfl c (oc + k * 32) y _ rfl HG2.out Tryz.underlying25 rfl HS2.out ?_; go_big_quiet_on; simp only [Act.put, List.setIfInBounds_toArray, List.set_cons_zero, List.set_cons_succ])
            | go_big_quiet_step ((intro hs'; rfl)))
          refine wpQuiet_nil ?_
          intro w6 hs6
          have HB6 := Lib.hid (HBW.out.trans (hs6.mono HBW.out.size))
          clear hs6
          go_wp2_with fail
          refine ⟨⟨k + 1, by omega, by go_num, fun q hq => ?_, HB6.out⟩, by simp [intOf]; omega⟩
          by_cases hqj : q = k
          · subst hqj
            rw [HXE.out, HYE.out]
            exact HEQ.out
          · exact HJ.out q (by omega)
        | false =>
          have HNE := Lib.hid (show x ≠ y by have := HZ.out; simpa using this)
          refine wp_region_class (fun w' => Below wr.heap.size wr w') (by kernel_rfl) (by kernel_rfl) (Below.refl _ _).drew ?_
          repeat (first
            | (go_big_quiet_want; refine quiet_load_id 25 _ rfl b (ob + k * 32) x _ rfl HG1.out Tryz.underlying25 rfl HS1.out ?_; go_big_quiet_on; simp only [Act.put, List.setIfInBounds_toArray, List.set_cons_zero, List.set_cons_succ])
            | (go_big_quiet_want; refine quiet_load_id 25 _ rfl c (oc + k * 32) y _ rfl HG2.out Tryz.underlying25 rfl HS2.out ?_; go_big_quiet_on; simp only [Act.put, List.setIfInBounds_toArray, List.set_cons_zero, List.set_cons_succ])
            | go_big_quiet_step ((intro hs'; rfl)))
          refine wpQuiet_nil ?_
          intro w6 hs6
          have HB6 := Lib.hid (HBW.out.trans (hs6.mono HBW.out.size))
          clear hs6
          have HR := Shut.mk (show decide (A = B) = false from decide_eq_false (fun e => HNE.out (by rw [← HXE.out, ← HYE.out, e])))
          go_wp2_with fail
          go_ret
          exact ⟨by rw [HR.out]; rfl, HB6.out⟩
      · obtain rfl : k = m := by omega
        have HR := Shut.mk (show decide (A = B) = true from decide_eq_true (ids_eq (HMA.out.trans HMB.out.symm) (fun j hj => HJ.out j (by rw [← HMA.out]; exact hj))))
        go_wp2_with fail
        go_ret
        exact ⟨by rw [HR.out]; rfl, HBW.out⟩
  · have hbq : ((m : Int) != (k0 : Int)) = true := by simp; omega
    have HR := Shut.mk (show decide (A = B) = false from decide_eq_false (fun e => hne (by rw [← hma, ← hmb, e])))
    clear ha hb hA hB hma hmb hne
    go_enter Tryz.func12, Tryz.ntmps12
    go_wp2_with fail
    go_ret
    exact ⟨by rw [HR.out]; rfl, Below.refl _ _⟩
end Go.Proofs.YtandadfphlandaaGreatDoor
namespace Go.Proofs.YtandadfphlandaaGreatDoor
open Go.RowKit Go.BigFrame
theorem ops_name {s : DagN} (hn : s.names.Nodup) {o : OpN} {x : List Nat} (ho : o ∈ s.ops) (hx : nameN o = x) : ∃ q : Nat, s.ops[q]? = some o ∧ atN s.names x = (q : Int) := by
  obtain ⟨q, hq, he⟩ := List.getElem_of_mem ho
  have hl : q < s.names.length := by rw [DagN.names, List.length_map]; exact hq
  have hg : s.names[q] = x := by simp only [DagN.names, List.getElem_map, he, hx]
  refine ⟨q, by rw [List.getElem?_eq_getElem hq, he], ?_⟩
  rw [atN, if_pos (hg ▸ List.getElem_mem hl), ← hg, hn.idxOf_getElem]
set_option maxHeartbeats 8000000 in
set_option maxRecDepth 100000 in
theorem same_true (X X2 : Nat → Prop) (B : Bs) (T : Ents) (s : DagN) (hs : List (List Nat)) (M : Bh) (gs : Nat) (vo vw vn vq : Value) (w : World) (h : SetAt X B T s hs M w) (hD : DInv s hs M [] []) (ht : Tame s) (hr : RefAt X2 gs vo vw vn vq s w) :
    Calls Tryz.prog 13 #[.pointer (some ⟨B.gs, 0, none⟩), .pointer (some ⟨gs, 0, none⟩)] w fun e w' => e = .returned (.bool true) ∧ Below w.heap.size w w' := by
  have HTM := Lib.hid ht
  have HDI := Lib.hid hD
  have HST := Lib.hid (fun w1 (b : Below w.heap.size w w1) => h.below b)
  have HRF := Lib.hid (fun w1 (b : Below w.heap.size w w1) => hr.below b)
  have HDN := Lib.hid (fun w1 (b : Below w.heap.size w w1) => dev_names (h.below b) (by have := ht.many; omega))
  have HDH := Lib.hid (fun w1 (b : Below w.heap.size w w1) => dev_heads (h.below b) hD (by have := ht.many; omega))
  have HDW := Lib.hid (fun w1 (b : Below w.heap.size w w1) => dev_waits (h.below b) (by have := ht.many; omega))
  have HRN := Lib.hid (fun w1 (b : Below w.heap.size w w1) => ref_names X2 gs vo vw vn vq s w1 (hr.below b) (by have := ht.many; omega))
  have HRH := Lib.hid (fun w1 (b : Below w.heap.size w w1) => ref_heads X2 gs vo vw vn vq s w1 (hr.below b) (fun x hx => ⟨(ht.ops x hx).d.ref.1, (ht.ops x hx).preds, by have := (ht.ops x hx).many; omega⟩) (by have := ht.many; omega))
  have HRW := Lib.hid (fun w1 (b : Below w.heap.size w w1) => ref_waits X2 gs vo vw vn vq s w1 (hr.below b) (by have := ht.many; omega))
  have hnl : (risingN s.names).length ≤ 1000 := by rw [(risingN_perm _).length_eq, DagN.names, List.length_map]; have := ht.many; omega
  have hwl : (risingN s.waits).length ≤ 1000 := by rw [(risingN_perm _).length_eq, DagN.waits, List.length_map]; have := ht.many; omega
  have hhl : (headsN s).length ≤ 1000 := by
    rw [headsN, (risingN_perm _).length_eq]
    exact Nat.le_trans (List.length_filter_le _ _) (by rw [DagN.names, List.length_map]; have := ht.many; omega)
  have HIN := Lib.hid (show Ids (risingN s.names) from risingN_ids names_ok)
  have HIW := Lib.hid (show Ids (risingN s.waits) from risingN_ids names_ok)
  have HIH := Lib.hid (show Ids (headsN s) from risingN_ids (L := s.names.filter fun n => !(s.ops.any fun o => decide (n ∈ o.preds))) (fun x hx => names_ok x (List.mem_filter.1 hx).1))
  have HNP := Lib.hid (fun x (hx : x ∈ risingN s.names) => (risingN_perm s.names).mem_iff.1 hx)
  obtain ⟨LN, hLN⟩ : ∃ L, risingN s.names = L := ⟨_, rfl⟩
  obtain ⟨LW, hLW⟩ : ∃ L, risingN s.waits = L := ⟨_, rfl⟩
  obtain ⟨LH, hLH⟩ : ∃ L, headsN s = L := ⟨_, rfl⟩
  rw [hLN] at HDN HRN hnl HIN HNP
  rw [hLW] at HDW HRW hwl HIW
  rw [hLH] at HDH HRH hhl HIH
  have HBN := Lib.hid hnl
  have HBW := Lib.hid hwl
  have HBH := Lib.hid hhl
  have HEQ := Lib.hid (fun (A : List (List Nat)) (ao bo : Option Addr) (ca cb : Nat) (w1 : World) (ha : IAt ao A w1) (hb : IAt bo A w1) (hA : Ids A) (hl : A.length ≤ 1000) => show Calls Tryz.prog 12 #[.slice ao A.length ca, .slice bo A.length cb] w1 fun e w' => e = .returned (.bool true) ∧ Below w1.heap.size w1 w' from by
    have h := ref_ids ao bo ca cb A.length A.length A A w1 ha hb hA hA rfl rfl (by omega) (by omega)
    rwa [decide_eq_true rfl] at h)
  clear h hD ht hr hnl hwl hhl hLN hLW hLH
  go_enter Tryz.func13, Tryz.ntmps13
  go_wp2_with fail
  refine (HDN.out w (Below.refl _ _)).mono ?_
  rintro e w2 ⟨v2, rfl, ho2, hb2⟩
  obtain ⟨a2, c2, rfl⟩ := ho2.form
  have HO2 := Lib.hid ho2
  have HB2 := Lib.hid hb2
  clear ho2 hb2
  go_wp2_with fail
  refine (HRN.out w2 HB2.out).mono ?_
  rintro e w3 ⟨v3, rfl, ho3, hb3⟩
  obtain ⟨a3, c3, rfl⟩ := ho3.form
  have HB3 := Lib.hid (HB2.out.trans (hb3.mono HB2.out.size))
  have HI3 := Lib.hid (HEQ.out LN a2 a3 c2 c3 w3 ((HO2.out.below hb3).at HIN.out) (ho3.at HIN.out) HIN.out HBN.out)
  clear ho3 hb3
  go_wp2_with fail
  refine HI3.out.mono ?_
  rintro e w4 ⟨rfl, hb4⟩
  have HB4 := Lib.hid (HB3.out.trans (hb4.mono HB3.out.size))
  clear hb4
  go_wp2_with fail
  refine (HDH.out w4 HB4.out).mono ?_
  rintro e w5 ⟨v5, rfl, ho5, hb5⟩
  obtain ⟨a5, c5, rfl⟩ := ho5.form
  have HO5 := Lib.hid ho5
  have HB5 := Lib.hid (HB4.out.trans (hb5.mono HB4.out.size))
  clear ho5 hb5
  go_wp2_with fail
  refine (HRH.out w5 HB5.out).mono ?_
  rintro e w6 ⟨v6, rfl, ho6, hb6⟩
  obtain ⟨a6, c6, rfl⟩ := ho6.form
  have HB6 := Lib.hid (HB5.out.trans (hb6.mono HB5.out.size))
  have HI6 := Lib.hid (HEQ.out LH a5 a6 c5 c6 w6 ((HO5.out.below hb6).at HIH.out) (ho6.at HIH.out) HIH.out HBH.out)
  clear ho6 hb6
  go_wp2_with fail
  refine HI6.out.mono ?_
  rintro e w7 ⟨rfl, hb7⟩
  have HB7 := Lib.hid (HB6.out.trans (hb7.mono HB6.out.size))
  clear hb7
  go_wp2_with fail
  refine (HDW.out w7 HB7.out).mono ?_
  rintro e w8 ⟨v8, rfl, ho8, hb8⟩
  obtain ⟨a8, c8, rfl⟩ := ho8.form
  have HO8 := Lib.hid ho8
  have HB8 := Lib.hid (HB7.out.trans (hb8.mono HB7.out.size))
  clear ho8 hb8
  go_wp2_with fail
  refine (HRW.out w8 HB8.out).mono ?_
  rintro e w9 ⟨v9, rfl, ho9, hb9⟩
  obtain ⟨a9, c9, rfl⟩ := ho9.form
  have HB9 := Lib.hid (HB8.out.trans (hb9.mono HB8.out.size))
  have HI9 := Lib.hid (HEQ.out LW a8 a9 c8 c9 w9 ((HO8.out.below hb9).at HIW.out) (ho9.at HIW.out) HIW.out HBW.out)
  clear ho9 hb9
  go_wp2_with fail
  refine HI9.out.mono ?_
  rintro e wa ⟨rfl, hba⟩
  have HBa := Lib.hid (HB9.out.trans (hba.mono HB9.out.size))
  clear hba
  go_wp2_with fail
  refine (HRN.out wa HBa.out).mono ?_
  rintro e wb ⟨vb, rfl, hob, hbb⟩
  obtain ⟨ab, cb, rfl⟩ := hob.form
  have HBb := Lib.hid (HBa.out.trans (hbb.mono HBa.out.size))
  have HOb := Lib.hid (hob.at HIN.out)
  clear hob hbb
  obtain ⟨m, hm⟩ : ∃ m, LN.length = m := ⟨_, rfl⟩
  have HM := Shut.mk hm
  have hmb : m ≤ 1000 := by rw [← hm]; exact HBN.out
  rw [hm]
  clear hm HI3 HI6 HI9 HO2 HO5 HO8 HDN HDH HDW HRN HRH HRW HEQ HIW HIH HBN HBW HBH
  go_wp2_with fail
  go_loopw [34] (fun i wr => ∃ k : Nat, k ≤ m ∧ i = .int .i64 k ∧ Below wb.heap.size wb wr) (fun i _ => m - (intOf i).toNat)
  case atStart => exact ⟨0, Nat.zero_le _, rfl, Below.refl _ _⟩
  case round =>
    obtain ⟨k, hk, rfl, hbw⟩ := hrel
    have HBW := Lib.hid hbw
    have HAW := Lib.hid (HOb.out.below hbw)
    clear hbw
    by_cases hlt : k < m
    · obtain ⟨b, ob, rfl, hbl⟩ := HAW.out.some (by rw [HM.out]; omega)
      have g1 := HAW.out.get (i := k) (by rw [HM.out]; omega)
      have i1 := Ids.getD HIN.out (i := k) (by rw [HM.out]; omega)
      have hmem : LN.getD k [] ∈ LN := by
        rw [List.getD_eq_getElem?_getD, List.getElem?_eq_getElem (by rw [HM.out]; exact hlt)]
        exact List.getElem_mem _
      obtain ⟨x, hx⟩ : ∃ x, LN.getD k [] = x := ⟨_, rfl⟩
      rw [hx] at g1 i1 hmem
      have HG1 := Lib.hid g1
      have HXI := Lib.hid (show IdOk x from i1)
      have HIS := Lib.hid (HNP.out x hmem)
      have HS1 := Lib.hid (show (Tryz.prog.info? 25).map (·.size) = some x.length by rw [i1.1]; exact Tryz.sizeI)
      have HL2 := Lib.hid (show (List.replicate 32 0).length = x.length by rw [i1.1]; rfl)
      clear hx g1 i1 hbl hmem
      go_wp2_with (first
        | (refine wpList_load_id rfl 25 _ rfl b (ob + k * 32) x _ rfl HG1.out Tryz.underlying25 rfl HS1.out ?_)
        | (refine wpList_store_nums rfl 25 _ _ rfl rfl wr.heap.size .u8 (List.replicate 32 0) x 25 rfl rfl (heap_alloc_new wr _) HS1.out HL2.out ?_))
      intro w5 hc' hb'
      have hby : Below wr.heap.size wr w5 := But.toBelow ((Below.refl _ _).alloc (Nat.le_refl _) _) hb'.out (Nat.le_refl _) (by rw [World.size_alloc]; exact Nat.le_succ _)
      have HB5 := Lib.hid (HBb.out.trans ((HBW.out.trans (hby.mono HBW.out.size)).mono HBb.out.size))
      have HB5b := Lib.hid (HBW.out.trans (hby.mono HBW.out.size))
      have HY := Lib.hid hc'.out
      obtain ⟨g6, hg6⟩ : ∃ g, wr.heap.size = g := ⟨_, rfl⟩
      rw [hg6] at HY ⊢
      clear hc' hb' hby hg6 HG1
      have HGT := Lib.hid (dev_get X B T s hs M x w5 (HST.out w5 HB5.out) HXI.out HTM.out.ops)
      go_wp2_with (refine wpList_load_nums rfl 25 (.tmp 6) rfl g6 .u8 x 25 _ rfl HY.out Tryz.underlying25 rfl HS1.out ?_)
      refine HGT.out.mono ?_
      rintro e w6 ⟨⟨o, pa, pc, ho, hor⟩, hb6⟩
      obtain ⟨ho1, ho2, rfl⟩ : o ∈ s.ops ∧ nameN o = x ∧ e = .returned (.tuple #[.agg (opV o pa pc), .int .i64 0]) := by
        rcases hor with h | ⟨h, _⟩
        · exact h
        · exact absurd HIS.out h
      have HOF := Lib.hid (HTM.out.ops o ho1)
      obtain ⟨q, hq1, hq2⟩ := ops_name HDI.out.nodupN ho1 ho2
      have HB6 := Lib.hid (HB5.out.trans (hb6.mono HB5.out.size))
      have HB6b := Lib.hid (HB5b.out.trans (hb6.mono HB5b.out.size))
      have HY6 := Lib.hid (HY.out.below hb6)
      have HIO := Lib.hid (ho.at HOF.out.preds)
      have HQ1 := Lib.hid hq1
      have HQ2 := Lib.hid hq2
      have HSV := Lib.hid (show (Tryz.prog.info? 38).map (·.size) = some (opV o pa pc).size by rw [opV_size HOF.out.d.ref.1]; exact Tryz.sizeO)
      have HSZ := Lib.hid (show (opV zeroO none 0).size = (opV o pa pc).size by rw [opV_size HOF.out.d.ref.1]; rfl)
      have HZO := Lib.hid (show (Tryz.prog.info? 38).bind (·.zero) = some (.agg (opL zeroO none 0).toArray) by kernel_rfl)
      clear hor hb6 ho ho1 ho2 hq1 hq2 HGT
      go_wp2_with (first
        | (refine wpList_alloc_of rfl 38 rfl (opL zeroO none 0) HZO.out ?_)
        | (refine wpList_store_cells rfl 38 _ _ rfl rfl w6.heap.size (opV zeroO none 0) (opV o pa pc) 38 rfl rfl (heap_alloc_new w6 _) HSV.out HSZ.out (opV_all o pa pc) ?_))
      intro w7 hc7 hb7
      have hb67 : Below w6.heap.size w6 w7 := But.toBelow ((Below.refl _ w6).alloc (Nat.le_refl _) _) hb7.out (Nat.le_refl _) (by rw [World.size_alloc]; exact Nat.le_succ _)
      have HB7 := Lib.hid (HB6.out.trans (hb67.mono HB6.out.size))
      have HB7b := Lib.hid (HB6b.out.trans (hb67.mono HB6b.out.size))
      have HY7 := Lib.hid (HY6.out.below hb67)
      have HO7 := Lib.hid hc7.out
      have HIO7 := Lib.hid (HIO.out.below hb67)
      obtain ⟨g7, hg7⟩ : ∃ g, w6.heap.size = g := ⟨_, rfl⟩
      rw [hg7] at HO7 ⊢
      clear hc7 hb7 hb67 hg7 HY HY6 HIO
      obtain ⟨ro, rc, rfl⟩ := (HRF.out w7 HB7.out).ops.form
      obtain ⟨bo, oo, rfl, hbo, py, cy, hry, hia, _⟩ := (HRF.out w7 HB7.out).ops.at.get HQ1.out
      have hqN : (q : Int) < (s.ops.length : Int) := by
        have := (List.getElem?_eq_some_iff.1 HQ1.out).1
        omega
      have HRY := Lib.hid (fun w' (r : Below w7.heap.size w7 w') => rangeAt_belowI hry r hbo)
      have HCO := Lib.hid (fun w' (r : Below w7.heap.size w7 w') => show w'.cell? ⟨gs, 0, none⟩ = some (.slice (some ⟨bo, oo, none⟩) s.ops.length rc) from ((HRF.out w7 HB7.out).cells.below r).at 0)
      have HYC := Lib.hid (fun w' (r : Below w7.heap.size w7 w') => HY7.out.below r)
      have HOC := Lib.hid (fun w' (r : Below w7.heap.size w7 w') => HO7.out.below r)
      have HAT := Lib.hid (fun w' (r : Below w7.heap.size w7 w') => show Calls Tryz.prog 18 #[.pointer (some ⟨gs, 0, none⟩), .agg (nums .u8 x).toArray] w' fun e w'' => e = .returned (.int .i64 (q : Int)) ∧ Below w'.heap.size w' w'' from by
        have h := ref_at10 X2 gs _ vw vn vq s x w' ((HRF.out w7 HB7.out).below r) HXI.out.1 HXI.out.2 (by have := HTM.out.many; omega)
        rwa [HQ2.out] at h)
      have HSA := Lib.hid (fun w' (r : Below w7.heap.size w7 w') => show Calls Tryz.prog 17 #[.agg (opV o pa pc), .agg (opV o py cy)] w' fun e w'' => e = .returned (.bool true) ∧ Below w'.heap.size w' w'' from by
        have h := ref_same9 o o pa py pc cy w' HOF.out.ok HOF.out.ok (HIO7.out.below r) (hia.below r) (by have := HOF.out.many; omega) (by have := HOF.out.many; omega)
        rwa [decide_eq_true rfl] at h)
      have HSO := Lib.hid (show (Tryz.prog.info? 38).map (·.size) = some (opL o py cy).length by rw [opL_len HOF.out.d.ref.1]; exact Tryz.sizeO)
      clear hry hia hbo
      obtain ⟨NN, hNN⟩ : ∃ NN, s.ops.length = NN := ⟨_, rfl⟩
      rw [hNN] at hqN HCO
      clear hNN
      go_upto_region 7 with (fail)
      refine wp_region_class (fun w' => Below w7.heap.size w7 w') (by kernel_rfl) (by kernel_rfl) (Below.refl _ _).drew ?_
      repeat (first
        | go_big_quiet_skip
        | (go_big_quiet_want; refine quiet_load_cells 38 _ rfl g7 (opV o pa pc) 38 _ rfl HOC.out Tryz.underlying38 rfl HSV.out ?_; go_big_quiet_on; simp only [Act.put, List.setIfInBounds_toArray, List.set_cons_zero, List.set_cons_succ])
        | (go_big_quiet_want; refine quiet_load_cell 29 _ rfl ⟨gs, 0, none⟩ _ rfl HCO.out Tryz.isAgg29 ?_; go_big_quiet_on; simp only [Act.put, List.setIfInBounds_toArray, List.set_cons_zero, List.set_cons_succ])
        | (go_big_quiet_want; refine quiet_load_nums 25 _ rfl g6 .u8 x 25 _ rfl HYC.out Tryz.underlying25 rfl HS1.out ?_; go_big_quiet_on; simp only [Act.put, List.setIfInBounds_toArray, List.set_cons_zero, List.set_cons_succ])
        | (go_big_quiet_want; refine quiet_load_row 38 _ rfl bo (oo + q * 38) (opL o py cy) _ rfl HRY.out Tryz.underlying38 rfl HSO.out ?_; go_big_quiet_on; simp only [Act.put, List.setIfInBounds_toArray, List.set_cons_zero, List.set_cons_succ])
        | go_big_quiet_step ((intro hs'; first
            | (go_at_call 18; exact (HAT.out _ hs').mono fun e w' h => ⟨h.1, hs'.trans (h.2.mono hs'.size)⟩)
            | (go_at_call 17; exact (HSA.out _ hs').mono fun e w' h => ⟨h.1, hs'.trans (h.2.mono hs'.size)⟩)
            | rfl)))
      refine wpQuiet_nil ?_
      intro w8 hs8
      have HB8b := Lib.hid (HB7b.out.trans (hs8.mono HB7b.out.size))
      clear hs8
      go_wp2_with fail
      exact ⟨⟨k + 1, by omega, by go_num, HB8b.out⟩, by simp [intOf]; omega⟩
    · obtain rfl : k = m := by omega
      go_wp2_with fail
      go_ret
      exact ⟨rfl, HBb.out.trans (HBW.out.mono HBb.out.size)⟩
end Go.Proofs.YtandadfphlandaaGreatDoor
namespace Go.Proofs.YtandadfphlandaaGreatDoor
def aD (k : Int) : DraftN := ⟨k, [107], [], zeroI⟩
def aO : OpN := ⟨aD 1, 1, 1, []⟩
def bO : OpN := ⟨aD 3, 2, 2, [nameN aO]⟩
theorem al_next1 : nextN' DagN.new 1 (aD 1) = (some aO, 0) := by kernel_rfl
theorem al_take1 : takeN DagN.new aO = ([nameN aO], 0, ⟨[aO], []⟩) := by kernel_rfl
theorem al_next2 : nextN' ⟨[aO], []⟩ 2 (aD 3) = (some bO, 0) := by kernel_rfl
theorem al_take2 : takeN DagN.new bO = ([], 0, ⟨[], [bO]⟩) := by kernel_rfl
theorem al_take3 : takeN ⟨[], [bO]⟩ aO = ([nameN aO, nameN bO], 0, ⟨[aO, bO], []⟩) := by kernel_rfl
theorem al_heads : (headsN ⟨[aO, bO], []⟩).length = 1 := by kernel_rfl
end Go.Proofs.YtandadfphlandaaGreatDoor
namespace Go.Proofs.YtandadfphlandaaGreatDoor
open Go.RowKit Go.BigFrame
theorem SetAt.widen0 {X Y : Nat → Prop} {B : Bs} {w : World} (h : SetAt X B ⟨[], [], []⟩ DagN.new [] [] w) (k : ∀ b, X b → Y b) : SetAt Y B ⟨[], [], []⟩ DagN.new [] [] w :=
  ⟨h.cells, h.pm, h.wm, h.hm, h.bm, ⟨rfl, fun i x hx => by simp [DagN.new] at hx⟩, ⟨rfl, fun i x hx => by simp [DagN.new] at hx⟩, ⟨rfl, fun i q hq => by simp at hq, fun i j p q u v hi => by simp at hi, fun q hq => by cases hq⟩,
    ⟨k _ h.mine.1, k _ h.mine.2.1, k _ h.mine.2.2.1, k _ h.mine.2.2.2.1, k _ h.mine.2.2.2.2⟩, h.apart⟩
theorem built_aD (k : Int) : Tryz.prog.built 27 [(0, .int .i64 k), (1, .string ⟨#[107]⟩)] = some (draftV (aD k)) := by
  rw [draft_fill]
  refine (fill_lay placeD 0 0 1 _ _ [] [.int .i64 0] (.string ⟨#[]⟩ :: .string ⟨#[]⟩ :: nums .u8 zeroI) [.int .i64 k] rfl rfl rfl rfl rfl).trans ?_
  refine (fill_lay placeD 1 1 1 (.string ⟨#[107]⟩) [] [.int .i64 k] [.string ⟨#[]⟩] (.string ⟨#[]⟩ :: nums .u8 zeroI) [.string ⟨#[107]⟩] rfl rfl rfl rfl rfl).trans ?_
  rw [fill_end]
  rfl
theorem aD_ref (k : Int) : IdOk (aD k).ref := zeroI_ok
theorem aO_fit : aO.Fit := ⟨⟨zeroI_ok, by decide, by decide, by decide, by decide⟩, by decide, by decide, by decide, by decide, (fun p hp => by cases hp), by decide⟩
theorem bO_fit : bO.Fit := ⟨⟨zeroI_ok, by decide, by decide, by decide, by decide⟩, by decide, by decide, by decide, by decide, (fun p hp => by rw [List.mem_singleton.1 hp]; exact ⟨nameN_len aO, nameN_lt aO⟩), by decide⟩
theorem tame_new : Tame DagN.new := ⟨(fun x hx => by cases hx), (fun x hx => by cases hx), (fun x hx => by cases hx), by decide⟩
set_option maxHeartbeats 8000000 in
set_option maxRecDepth 100000 in
theorem alive10 (w : World) (hk : KAt w) : Calls Tryz.prog 7 #[] w fun e w' => e = .returned (.bool true) ∧ Below w.heap.size w w' := by
  obtain ⟨X, hX⟩ : ∃ X : Nat → Prop, X = fun b => w.heap.size ≤ b := ⟨_, rfl⟩
  have HX := Lib.hid (show ∀ b, X b ↔ w.heap.size ≤ b from fun b => by rw [hX])
  have HK := Lib.hid hk
  have HZO := Lib.hid (show (Tryz.prog.info? 38).bind (·.zero) = some (.agg (opL zeroO none 0).toArray) by kernel_rfl)
  have HSV := Lib.hid (fun (o : OpN) (h : o.d.ref.length = 32) (pa : Option Addr) (pc : Nat) => show (Tryz.prog.info? 38).map (·.size) = some (opV o pa pc).size by rw [opV_size h]; exact Tryz.sizeO)
  have HSZ := Lib.hid (fun (o : OpN) (h : o.d.ref.length = 32) (pa : Option Addr) (pc : Nat) => show (opV zeroO none 0).size = (opV o pa pc).size by rw [opV_size h]; rfl)
  have HAR := Lib.hid (show aO.d.ref.length = 32 from aO_fit.d.ref.1)
  have HBR := Lib.hid (show bO.d.ref.length = 32 from bO_fit.d.ref.1)
  clear hk hX
  go_enter Tryz.func7, Tryz.ntmps7
  go_wp2_with fail
  refine (dev_new X w (fun b h => (HX.out b).2 h)).mono ?_
  rintro e w1 ⟨B1, rfl, hs1, hb1⟩
  have HS1 := Lib.hid hs1
  have HB1 := Lib.hid hb1
  clear hs1 hb1
  go_wp2_with fail
  refine (dev_new (fun b => w1.heap.size ≤ b) w1 (fun b h => h)).mono ?_
  rintro e w2 ⟨B2, rfl, hq2, hb2⟩
  have HQ2 := Lib.hid (hq2.widen0 (fun b h => (HX.out b).2 (Nat.le_trans HB1.out.size h)))
  have HS2 := Lib.hid (HS1.out.below hb2)
  have HAP := Lib.hid (show ∀ b, SetO B2 ⟨[], [], []⟩ b → ¬ SetO B1 ⟨[], [], []⟩ b from fun b h e => by
    have h1 := (SetO.x hq2 h).1
    have h2 := (SetO.x HS1.out e).2
    omega)
  have HB2 := Lib.hid (HB1.out.trans (hb2.mono HB1.out.size))
  clear hq2 hb2 HS1
  go_wp2_with (refine wpList_build_val rfl 27 _ rfl [(0, .int .i64 1), (1, .string ⟨#[107]⟩)] _ (by rw [List.map_toArray]; rfl) (built_aD 1) ?_)
  refine (dev_next X B1 ⟨[], [], []⟩ DagN.new [] [] 1 (aD 1) w2 HS2.out DInv.new (aD_ref 1) (by decide) (by decide) tame_new).mono ?_
  rintro e w3 ⟨hnx, hb3⟩
  rw [al_next1] at hnx
  obtain ⟨pa, pc, rfl, hia, _⟩ := hnx
  have hgd : (some aO).getD zeroO = aO := rfl
  simp only [hgd] at hia ⊢
  have HS3 := Lib.hid (HS2.out.below hb3)
  have HQ3 := Lib.hid (HQ2.out.below hb3)
  have HIA := Lib.hid hia
  have HB3 := Lib.hid (HB2.out.trans (hb3.mono HB2.out.size))
  clear hgd hia hb3 HS2 HQ2
  go_wp2_with (first
    | (refine wpList_alloc_of rfl 38 rfl (opL zeroO none 0) HZO.out ?_)
    | (refine wpList_store_cells rfl 38 _ _ rfl rfl w3.heap.size (opV zeroO none 0) (opV aO pa pc) 38 rfl rfl (heap_alloc_new w3 _) (HSV.out aO HAR.out pa pc) (HSZ.out aO HAR.out pa pc) (opV_all aO pa pc) ?_))
  intro w4 hc4 hb4
  have hb34 : Below w3.heap.size w3 w4 := But.toBelow ((Below.refl _ w3).alloc (Nat.le_refl _) _) hb4.out (Nat.le_refl _) (by rw [World.size_alloc]; exact Nat.le_succ _)
  have HS4 := Lib.hid (HS3.out.below hb34)
  have HQ4 := Lib.hid (HQ3.out.below hb34)
  have HA4 := Lib.hid hc4.out
  have HB4 := Lib.hid (HB3.out.trans (hb34.mono HB3.out.size))
  have HNS := Lib.hid (show ¬ SetO B1 ⟨[], [], []⟩ w3.heap.size ∧ ¬ SetO B2 ⟨[], [], []⟩ w3.heap.size from ⟨fun e => by have := (SetO.x HS3.out e).2; omega, fun e => by have := (SetO.x HQ3.out e).2; omega⟩)
  obtain ⟨ga, hga⟩ : ∃ g, w3.heap.size = g := ⟨_, rfl⟩
  have HGA := Lib.hid (show w.heap.size ≤ ga from hga ▸ HB3.out.size)
  rw [hga] at HA4 HNS ⊢
  clear hc4 hb4 hb34 hga HS3 HQ3 HIA
  go_wp2_with (refine wpList_load_cells rfl 38 (.tmp 3) rfl ga (opV aO pa pc) 38 _ rfl HA4.out Tryz.underlying38 rfl (HSV.out aO HAR.out pa pc) ?_)
  refine (dev_take X B1 ⟨[], [], []⟩ DagN.new [] [] aO pa pc w4 HS4.out (fun b h => (HX.out b).2 (Nat.le_trans HB4.out.size h)) DInv.new tame_new aO_fit (.inl rfl) (HK.out.below (HB4.out.mono (Nat.le_of_lt_succ (Nat.lt_succ_of_le (Nat.le_refl _))))) (by decide)).mono ?_
  rintro e w5 ⟨v5, X5, T5, hs5, M5, rfl, ho5, hset5, hd5, ht5, htu5, _, hx1, hx2, hx3⟩
  rw [al_take1] at hset5 hd5 ht5
  have HB5 := Lib.hid (Only.toBelow HB4.out htu5.only (fun b h => (HX.out b).1 (SetO.x HS4.out h).1) HB4.out.size)
  have HQ5 := Lib.hid (HQ4.out.only htu5.only (fun b h => (SetO.x HS4.out h).1) HAP.out)
  have HA5 := Lib.hid (HA4.out.only htu5.only HNS.out.1)
  have HS5 := Lib.hid hset5
  have HD5 := Lib.hid hd5
  have HT5 := Lib.hid ht5
  have HX5 := Lib.hid hx1
  clear hset5 hd5 ht5 ho5 htu5 hx1 hx2 hx3 HS4 HQ4 HA4
  go_wp2_with (refine wpList_build_val rfl 27 _ rfl [(0, .int .i64 3), (1, .string ⟨#[107]⟩)] _ (by rw [List.map_toArray]; rfl) (built_aD 3) ?_)
  refine (dev_next X5 B1 T5 ⟨[aO], []⟩ hs5 M5 2 (aD 3) w5 HS5.out HD5.out (aD_ref 3) (by decide) (by decide) HT5.out).mono ?_
  rintro e w6 ⟨hnx, hb6⟩
  rw [al_next2] at hnx
  obtain ⟨qa, qc, rfl, hia, _⟩ := hnx
  have hgd : (some bO).getD zeroO = bO := rfl
  simp only [hgd] at hia ⊢
  have HQ6 := Lib.hid (HQ5.out.below hb6)
  have HA6 := Lib.hid (HA5.out.below hb6)
  have HIA := Lib.hid hia
  have HB6 := Lib.hid (HB5.out.trans (hb6.mono HB5.out.size))
  clear hgd hia hb6 HQ5 HA5 HS5 HD5 HT5
  go_wp2_with (first
    | (refine wpList_alloc_of rfl 38 rfl (opL zeroO none 0) HZO.out ?_)
    | (refine wpList_store_cells rfl 38 _ _ rfl rfl w6.heap.size (opV zeroO none 0) (opV bO qa qc) 38 rfl rfl (heap_alloc_new w6 _) (HSV.out bO HBR.out qa qc) (HSZ.out bO HBR.out qa qc) (opV_all bO qa qc) ?_))
  intro w7 hc7 hb7
  have hb67 : Below w6.heap.size w6 w7 := But.toBelow ((Below.refl _ w6).alloc (Nat.le_refl _) _) hb7.out (Nat.le_refl _) (by rw [World.size_alloc]; exact Nat.le_succ _)
  have HQ7 := Lib.hid (HQ6.out.below hb67)
  have HA7 := Lib.hid (HA6.out.below hb67)
  have HC7 := Lib.hid hc7.out
  have HI7 := Lib.hid (HIA.out.below hb67)
  have HB7 := Lib.hid (HB6.out.trans (hb67.mono HB6.out.size))
  obtain ⟨gb, hgb⟩ : ∃ g, w6.heap.size = g := ⟨_, rfl⟩
  rw [hgb] at HC7 ⊢
  clear hc7 hb7 hb67 hgb HQ6 HA6 HIA
  go_wp2_with (refine wpList_load_cells rfl 38 (.tmp 5) rfl gb (opV bO qa qc) 38 _ rfl HC7.out Tryz.underlying38 rfl (HSV.out bO HBR.out qa qc) ?_)
  refine (dev_take X B2 ⟨[], [], []⟩ DagN.new [] [] bO qa qc w7 HQ7.out (fun b h => (HX.out b).2 (Nat.le_trans HB7.out.size h)) DInv.new tame_new bO_fit HI7.out (HK.out.below HB7.out) (by decide)).mono ?_
  rintro e w8 ⟨v8, X8, T8, hs8, M8, rfl, ho8, hset8, hd8, ht8, htu8, _, hx1, hx2, hx3⟩
  rw [al_take2] at hset8 hd8 ht8 ho8 ⊢
  dsimp only at ho8 ⊢
  have HB8 := Lib.hid (Only.toBelow HB7.out htu8.only (fun b h => (HX.out b).1 (SetO.x HQ7.out h).1) HB7.out.size)
  have HA8 := Lib.hid (HA7.out.only htu8.only HNS.out.2)
  have HQ8 := Lib.hid hset8
  have HD8 := Lib.hid hd8
  have HT8 := Lib.hid ht8
  have HX8 := Lib.hid hx1
  have HX83 := Lib.hid hx3
  obtain ⟨a8, c8, rfl⟩ := ho8.form
  clear hset8 hd8 ht8 ho8 htu8 hx1 hx2 hx3 HQ7 HA7 HC7 HI7
  go_wp2_with (refine wpList_load_cells rfl 38 (.tmp 3) rfl ga (opV aO pa pc) 38 _ rfl HA8.out Tryz.underlying38 rfl (HSV.out aO HAR.out pa pc) ?_)
  refine (dev_take X8 B2 T8 ⟨[], [bO]⟩ hs8 M8 aO pa pc w8 HQ8.out HX83.out HD8.out HT8.out aO_fit (.inl rfl) (HK.out.below HB8.out) (by decide)).mono ?_
  rintro e w9 ⟨v9, X9, T9, hs9, M9, rfl, ho9, hset9, hd9, ht9, htu9, _, hx1, hx2, hx3⟩
  rw [al_take3] at hset9 hd9 ht9 ho9 ⊢
  dsimp only at ho9 ⊢
  have HB9 := Lib.hid (Only.toBelow HB8.out htu9.only (fun b h => (HX.out b).1 (HX8.out b (SetO.x HQ8.out h).1)) HB8.out.size)
  have HHD := Lib.hid (dev_heads hset9 hd9 (by decide))
  obtain ⟨a9, c9, rfl⟩ := ho9.form
  clear hset9 hd9 ht9 ho9 htu9 hx1 hx2 hx3 HQ8 HD8 HT8
  go_wp2_with fail
  refine HHD.out.mono ?_
  rintro e w10 ⟨v10, rfl, ho10, hb10⟩
  obtain ⟨a10, c10, rfl⟩ := ho10.form
  rw [al_heads]
  have HB10 := Lib.hid (HB9.out.trans (hb10.mono HB9.out.size))
  clear ho10 hb10 HHD
  go_wp2_with fail
  go_ret
  exact ⟨rfl, HB10.out⟩
end Go.Proofs.YtandadfphlandaaGreatDoor
namespace Go.Proofs.YtandadfphlandaaGreatDoor
open Go.ChangeShapes Go.WideShapes Go.ChangeAt Go.RowKit
theorem gK : Tryz.prog.globalNamed "tribunal/sha.roundConstants" = some 0 := by kernel_rfl
theorem gKType : (Tryz.prog.globals[0]?).map (·.type) = some 141 := by kernel_rfl
theorem cellsK : Tryz.prog.cellsOf 141 = 64 := by kernel_rfl
theorem cellsU32 : Tryz.prog.cellsOf 115 = 1 := by kernel_rfl
def kInts : List Int := shaK.map fun (n : Nat) => (n : Int)
theorem k_laid {W : World} (h : laidMetH Tryz.prog [("tribunal/sha.roundConstants", Rows.laid_tribunal_sha_roundConstants)] W) : KAt W := by
  have ht : Lib.TabIs Tryz.prog W "tribunal/sha.roundConstants" .u32 kInts := Lib.tabIs_of_head (rest := []) gK gKType Tryz.underlying141 Tryz.underlying115 cellsU32 cellsK h
  intro j hj
  have hc := ht.cell gK j (by unfold kInts; rw [List.length_map, shaK_len]; exact hj)
  rw [hc]
  have e : kInts.getD j 0 = ((shaK.getD j 0 : Nat) : Int) := by
    unfold kInts
    rw [List.getD_eq_getElem?_getD, List.getElem?_map, List.getD_eq_getElem?_getD, List.getElem?_eq_getElem (by rw [shaK_len]; exact hj)]
    rfl
  rw [e]
noncomputable def laidWorld (os : Os) : World :=
  { World.holding Tryz.prog os ⟨#[], #[], []⟩ with heap := (World.holding Tryz.prog os ⟨#[], #[], []⟩).heap.modify 0 fun
      | .cells _ t frozen => .cells (nums .u32 shaK).toArray t frozen
      | o => o }
end Go.Proofs.YtandadfphlandaaGreatDoor
