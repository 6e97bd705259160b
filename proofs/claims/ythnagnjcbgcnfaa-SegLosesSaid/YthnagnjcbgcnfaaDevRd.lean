/-
  The developers' disk: Read, New.
-/
import Derived.Test.YthnagnjcbgcnfaaDevOff
namespace Go.Proofs.Ythnagnjcbgcnfaa
open Go.RowKit Go.BigFrame

theorem bv_zeros (n : Nat) : bv (List.replicate n 0) = List.replicate n (.int .u8 0) := by simp [bv, nums, byteNs]
theorem madeCells_bytes (n : Nat) : (madeCells (Value.int .u8 0).cells (n * 1)).toList = bv (List.replicate n 0) := by
  rw [bv_zeros]
  refine List.ext_getElem (by simp [madeCells]) fun j h1 h2 => ?_
  simp only [madeCells, Array.getElem_toList, Array.getElem_map, List.getElem_replicate]
  simp [Value.cells, Nat.mod_one]
theorem secs_zeros (N : Nat) : (secs (List.replicate N (List.replicate 128 0))).flatten = bv (List.replicate (128 * N) 0) := by
  rw [bv_zeros, secs, List.map_replicate, bv_zeros, List.flatten_replicate_replicate, Nat.mul_comm]
theorem whyS_bad {s : DS} {at' : Int} (h : ¬ (0 ≤ at' ∧ at' < (s.safe.length : Int))) : whyS s at' = 1 := by rw [whyS, if_pos (by omega)]
theorem whyS_down {s : DS} {at' : Int} (h : 0 ≤ at' ∧ at' < (s.safe.length : Int)) (ho : s.off = true) : whyS s at' = 7 := by rw [whyS, if_neg (by omega), if_pos ho]
theorem whyS_ok {s : DS} {at' : Int} (h : 0 ≤ at' ∧ at' < (s.safe.length : Int)) (ho : s.off = false) : whyS s at' = 0 := by rw [whyS, if_neg (by omega), if_neg (by rw [ho]; decide)]

set_option maxHeartbeats 4000000 in
set_option maxRecDepth 100000 in
theorem dev7_read_row (O : Nat → Prop) (v : Value) (s : DS) (at' : Int) (w : World) (h : DiskIs O v s w) (hf : Fit s 999999) :
    Calls Try.prog 15 #[v, .int .i64 at'] w fun e w' => (∃ ao c, e = .returned (.tuple #[.slice ao (readB s at').length c, .int .i64 (whyS s at' : Nat)]) ∧ w'.ownsRow w.heap.size 5 1 (.slice ao (readB s at').length c) (readB s at').length (bv (readB s at'))) ∧ Below w.heap.size w w' := by
  obtain ⟨g, vN, vS, vP, kp, rfl, rfl, hd, hkp⟩ := h
  have hsl := hf.safe
  have hl : (nowS s).length ≤ 16384 := by rw [nowS_len]; exact hsl
  by_cases hin : 0 ≤ at' ∧ at' < (s.safe.length : Int)
  · have HH := Lib.hid (dev_has g vN vS vP _ _ _ _ _ _ _ at' w hd hf.ok.now hl true (by rw [nowS_len]; exact decide_eq_true hin))
    have c4 := hd.field 4
    simp only [devV, List.getElem?_toArray, List.getElem?_cons_zero, List.getElem?_cons_succ] at c4
    cases hof : s.off with
    | true =>
      have HW := Shut.mk (whyS_down hin hof)
      have HB := Shut.mk (show readB s at' = [] by rw [readB, if_neg (by rw [whyS_down hin hof]; decide)])
      rw [hof] at c4
      clear hd hkp hf hof hin hsl hl
      rw [HW.out, HB.out]
      go_enter Try.func15, Try.ntmps15
      go_wp2_with fail
      refine HH.out.mono ?_
      rintro e w1 ⟨rfl, rfl⟩
      go_wp2_with fail
      go_ret2
      exact ⟨⟨none, 0, rfl, World.ownsRow_nil _ _ _ _⟩, Below.refl _ _⟩
    | false =>
      rw [hof] at c4
      obtain ⟨a, rfl⟩ : ∃ a : Nat, at' = a := ⟨at'.toNat, by omega⟩
      have ha : a < s.safe.length := by omega
      have HW := Shut.mk (whyS_ok hin hof)
      have HB := Shut.mk (show readB s a = readS s a by rw [readB, if_pos (whyS_ok hin hof), Int.toNat_natCast])
      rw [HW.out, HB.out]
      obtain ⟨gn, cn, hvn, hcn⟩ := hd.now.secForm hf.ok.now (by rw [nowS_len]; omega)
      rw [nowS_len] at hvn hcn
      subst hvn
      have H := Lib.hid hd
      have HX := Lib.hid (readS_len hf.ok ha)
      have HN := Lib.hid hf.ok.now
      have HR := Shut.mk (nowS_getD ha)
      have HSC := Lib.hid (fun w' => dev_sector gn (128 * s.safe.length) cn a w' (by omega) hcn (by omega))
      obtain ⟨x, hx⟩ : ∃ x, readS s a = x := ⟨_, rfl⟩
      rw [hx] at HX HR ⊢
      have HNL := Shut.mk (nowS_len s)
      have HA := Lib.hid ha
      obtain ⟨i0, hi, hz0, hz1, hz2⟩ := info_parts Try.infoU8
      have HIF := Lib.hid hi
      have HZ0 := Lib.hid hz0
      have HZ1 := Lib.hid hz1
      have HZ2 := Shut.mk hz2
      clear hd hkp hf hof hin hsl hl hx ha hi hz0 hz1 hz2
      go_enter Try.func15, Try.ntmps15
      go_wp2_with fail
      refine HH.out.mono ?_
      rintro e w1 ⟨rfl, rfl⟩
      go_wp2_with (at_make; refine wpList_make_full _ rfl _ _ 40 rfl w1.heap.size 5 i0 (.int .u8 0) 1 Try.underlying40 HIF.out HZ0.out HZ1.out .i64 .i64 _ _ 128 rfl rfl rfl rfl (by rw [HZ2.out]; decide) (by unfold maxLen; omega) (Nat.le_refl _) ?_)
      intro w2 ho2 hg2
      have hb2 : Below w1.heap.size w1 w2 := (Below.refl w1.heap.size w1).grown hg2 (Nat.le_refl _) (by intro g hg; cases hg)
      have hz2 : w2.ownsRow w1.heap.size 5 1 (.slice (some ⟨w1.heap.size, 0, none⟩) 128 128) 128 (bv (List.replicate 128 0)) := by
        rw [← madeCells_bytes]
        exact ho2
      have HO2 := Lib.hid hz2
      have HB2 := Lib.hid hb2
      have H2 := Lib.hid (H.out.below hb2)
      have hlt2 : w1.heap.size < w2.heap.size := (World.ownsRow.lt hz2 _ rfl).2
      obtain ⟨g2, hg2e⟩ : ∃ g2, g2 = w1.heap.size := ⟨_, rfl⟩
      rw [← hg2e] at HO2 hlt2 ⊢
      have HG2 := Shut.mk hg2e
      have c0 := H2.out.field 0
      simp only [devV, List.getElem?_toArray, List.getElem?_cons_zero] at c0
      have HSR := Lib.hid (fun j v (hj : (bv x)[j]? = some v) => show w2.cell? ((⟨gn, 128 * a, none⟩ : Addr).add j) = some v by
        have hjl := (List.getElem?_eq_some_iff.1 hj).1
        rw [bv_len, HX.out] at hjl
        rw [Addr.add_mid, H2.out.now.secThere (by rw [HNL.out]) HN.out (by rw [HNL.out]; exact HA.out) j hjl, HR.out, hj]
        rfl)
      have HDL := Shut.mk (show (bv x).length = Nat.min 128 128 by rw [bv_len]; exact HX.out)
      have HDC := Lib.hid (fun j (hj : j < (bv x).length) => show (w2.cell? ⟨g2, 0 + j, none⟩).isSome = true by
        rw [HDL.out] at hj
        rw [Nat.zero_add, World.ownsRow.cellAt HO2.out j hj, List.getElem?_eq_getElem (by rw [bv_len, List.length_replicate]; exact hj)]
        rfl)
      have HDF := Lib.hid (fun j (_ : j < (bv x).length) => show w2.frozen? ⟨g2, 0 + j, none⟩ = false from World.ownsRow.frozenAt HO2.out _)
      have HD1 := Lib.hid (bv_one x)
      clear ho2 hg2 hb2 hz2 hg2e H hlt2
      go_wp2_with (first
        | (go_at_call 29; refine (HSC.out _).mono ?_; rintro e w' ⟨rfl, rfl⟩)
        | (refine wpList_copy_cells rfl (.tmp 21) (.tmp 27) 40 40 rfl 5 Try.underlying40 (by kernel_rfl) g2 0 128 128 ⟨gn, 128 * a, none⟩ 128 (cn - 128 * a) (bv x) rfl rfl HDL.out HSR.out HDC.out HDF.out HD1.out ?_))
      go_ret2
      have hrow := ownsRow_layV (bv x) _ 0 w' HO2.out
      have hlay : layV (bv (List.replicate 128 0)) 0 (bv x) = bv x := by
        refine List.ext_getElem? fun j => ?_
        rw [layV_get _ _ _ _ (by rw [bv_len, bv_len, List.length_replicate, HX.out]; decide), bv_len, HX.out]
        by_cases hj : j < 128
        · rw [if_pos (by omega), Nat.sub_zero]
        · rw [if_neg (by omega), List.getElem?_eq_none (by rw [bv_len, List.length_replicate]; omega), List.getElem?_eq_none (by rw [bv_len, HX.out]; omega)]
      rw [hlay] at hrow
      have hbut := But.cells (b := g2) (bv x) 0 w' (But.refl g2 w')
      refine ⟨⟨some ⟨g2, 0, none⟩, 128, by rw [HX.out]; rfl, by rw [HX.out, ← HG2.out]; exact hrow⟩, But.toBelow HB2.out hbut (by rw [HG2.out]; exact Nat.le_refl _) ?_⟩
      exact HB2.out.size
  · have HH := Lib.hid (dev_has g vN vS vP _ _ _ _ _ _ _ at' w hd hf.ok.now hl false (by rw [nowS_len]; exact decide_eq_false hin))
    have HW := Shut.mk (whyS_bad hin)
    have HB := Shut.mk (show readB s at' = [] by rw [readB, if_neg (by rw [whyS_bad hin]; decide)])
    clear hd hkp hf hin hsl hl
    rw [HW.out, HB.out]
    go_enter Try.func15, Try.ntmps15
    go_wp2_with fail
    refine HH.out.mono ?_
    rintro e w1 ⟨rfl, rfl⟩
    go_wp2_with fail
    go_ret2
    exact ⟨⟨none, 0, rfl, World.ownsRow_nil _ _ _ _⟩, Below.refl _ _⟩
theorem newB_row {B n c : Nat} {e : TypeId} {ao : Option Addr} {x : List UInt8} {w : World} (hn : n = x.length) (h : w.ownsRow B e 1 (.slice ao n c) n (bv x)) : NewB B ao x w ∧ n ≤ c := by
  subst hn
  rcases h.2 with ⟨h1, h2⟩ | ⟨g, cap, cur, h1, hB, hh, hc, _, _, _⟩
  · exact ⟨.inl (List.length_eq_zero_iff.1 h2), by omega⟩
  · injection h1 with h1 _ h3
    subst h1
    subst h3
    exact ⟨.inr ⟨g, 0, rfl, hB, lt_of_block hh, fun j hj => by
      rw [Nat.zero_add]
      exact ⟨by rw [World.ownsRow.cellAt h j (by omega)]; exact bv_get hj, World.ownsRow.frozenAt h j⟩⟩, hc⟩
theorem dev7_read_cap (O : Nat → Prop) (v : Value) (s : DS) (at' : Int) (w : World) (h : DiskIs O v s w) (hf : Fit s 999999) :
    Calls Try.prog 15 #[v, .int .i64 at'] w fun e w' => (∃ ao c, e = .returned (.tuple #[.slice ao (readB s at').length c, .int .i64 (whyS s at' : Nat)]) ∧ NewB w.heap.size ao (readB s at') w' ∧ (readB s at').length ≤ c) ∧ Below w.heap.size w w' :=
  (dev7_read_row O v s at' w h hf).mono fun _ _ ⟨⟨ao, c, he, hn⟩, hb⟩ => ⟨⟨ao, c, he, newB_row rfl hn⟩, hb⟩
theorem dev7_read (O : Nat → Prop) (v : Value) (s : DS) (at' : Int) (w : World) (h : DiskIs O v s w) (hf : Fit s 999999) :
    Calls Try.prog 15 #[v, .int .i64 at'] w fun e w' => (∃ ao c, e = .returned (.tuple #[.slice ao (readB s at').length c, .int .i64 (whyS s at' : Nat)]) ∧ NewB w.heap.size ao (readB s at') w') ∧ Below w.heap.size w w' :=
  (dev7_read_cap O v s at' w h hf).mono fun _ _ ⟨⟨ao, c, he, hn, _⟩, hb⟩ => ⟨⟨ao, c, he, hn⟩, hb⟩

theorem dev_built (x y : Option Addr) (n c m d : Nat) : Try.prog.built 47 [(0, .slice x n c), (1, .slice y m d)] = some (devV (.slice x n c) (.slice y m d) (.slice none 0 0) false 0 0 0) := by kernel_rfl

theorem ownsRow_zero {B n size : Nat} {e : TypeId} {v : Value} {xs : List Value} {w : World} (h : w.ownsRow B e size v n xs) : w.ownsRow 0 e size v n xs := by
  refine ⟨h.1, ?_⟩
  rcases h.2 with h0 | ⟨g, cap, cur, hv, _, r⟩
  · exact .inl h0
  · exact .inr ⟨g, cap, cur, hv, Nat.zero_le _, r⟩
/-- Number i has made a row of zeros. -/
def ZRow (s : Nat → Bool) (V : Nat → Value) (B i M : Nat) (w : World) : Prop := s i = true → ∃ g, V i = .slice (some ⟨g, 0, none⟩) M M ∧ w.ownsRow B 5 1 (.slice (some ⟨g, 0, none⟩) M M) M (bv (List.replicate M 0))
theorem ZRow.none {V : Nat → Value} {B i M : Nat} {w : World} : ZRow (fun _ => false) V B i M w := fun h => by cases h
theorem ownsRow_below {B n size : Nat} {e : TypeId} {v : Value} {xs : List Value} {w w' : World} (h : w.ownsRow B e size v n xs) (hb : Below w.heap.size w w') : w'.ownsRow B e size v n xs := by
  refine World.ownsRow.kept (row := Option.none) h ⟨hb.os, hb.tape, hb.output, hb.size, fun i hi _ => hb.block i hi⟩ ?_
  rcases h.2 with ⟨hv, _⟩ | ⟨g, cap, cur, hv, hg, _⟩
  · exact Or.inl (by rw [hv]; rfl)
  · exact Or.inr (by rw [hv]; simp [Value.ownBlock])
theorem ZRow.ne {s : Nat → Bool} {V : Nat → Value} {B i j M : Nat} {w w' : World} {u : Value} (h : ZRow s V B j M w) (hne : j ≠ i) (hb : Below w.heap.size w w') : ZRow (fun j => s j || j == i) (upd V i u) B j M w' := fun hs => by
  obtain ⟨g, e, hr⟩ := h (seen_ne hne hs)
  exact ⟨g, by rw [upd_ne V u hne]; exact e, ownsRow_below hr hb⟩
theorem ZRow.same {s : Nat → Bool} {V : Nat → Value} {B i g M : Nat} {w : World} (h : w.ownsRow B 5 1 (.slice (some ⟨g, 0, Option.none⟩) M M) M (bv (List.replicate M 0))) : ZRow (fun j => s j || j == i) (upd V i (.slice (some ⟨g, 0, Option.none⟩) M M)) B i M w := fun _ => ⟨g, upd_same _ _ _, h⟩
theorem ZRow.two {s : Nat → Bool} {V : Nat → Value} {B i j M : Nat} {w : World} (h : ZRow s V B j M w) (hne : j ≠ i) : Two (fun j => s j || j == i) (upd V i (.slice (some ⟨w.heap.size, 0, Option.none⟩) M M)) i j := fun _ h2 => by
  obtain ⟨g, e, hr⟩ := h (seen_ne hne h2)
  rw [upd_same, upd_ne V _ hne, e]
  intro h3
  have h4 := (World.ownsRow.lt hr g rfl).2
  simp only [Value.slice.injEq, Option.some.injEq, Addr.mk.injEq] at h3
  omega
theorem Two.flip {s : Nat → Bool} {V : Nat → Value} {i j : Nat} (h : Two s V i j) : Two s V j i := fun h1 h2 e => h h2 h1 e.symm

set_option maxHeartbeats 4000000 in
set_option maxRecDepth 100000 in
theorem dev7_new (n : Int) (w : World) :
    Calls Try.prog 7 #[.int .i64 n] w fun e w' => (∃ v O, e = .returned v ∧ DiskIs O v (newS n) w' ∧ (∀ b, O b → w.heap.size ≤ b)) ∧ Below w.heap.size w w' := by
  obtain ⟨N, hN⟩ : ∃ N, sizeN n = N := ⟨_, rfl⟩
  have HNW := Shut.mk (show newS n = ⟨List.replicate N (List.replicate 128 0), [], false, 0, 0, 0⟩ by rw [newS, hN])
  have hN2 : N = min n.toNat 16384 := by rw [← hN]; rfl
  have HN := Lib.hid (show N ≤ 16384 by omega)
  clear hN
  have HFIN := Lib.hid (fun (g gn gs : Nat) (w' : World) (hc : Cells g 47 (devV (.slice (some ⟨gn, 0, none⟩) (128 * N) (128 * N)) (.slice (some ⟨gs, 0, none⟩) (128 * N) (128 * N)) (.slice none 0 0) false 0 0 0) w') (hr : w'.ownsRow w.heap.size 5 1 (.slice (some ⟨gn, 0, none⟩) (128 * N) (128 * N)) (128 * N) (bv (List.replicate (128 * N) 0)))
      (hq : w'.ownsRow w.heap.size 5 1 (.slice (some ⟨gs, 0, none⟩) (128 * N) (128 * N)) (128 * N) (bv (List.replicate (128 * N) 0))) (hne : gn ≠ gs) (hg : w.heap.size ≤ g) =>
    show DiskIs (devO g (.slice (some ⟨gn, 0, none⟩) (128 * N) (128 * N)) (.slice (some ⟨gs, 0, none⟩) (128 * N) (128 * N)) (.slice none 0 0)) (.pointer (some ⟨g, 0, none⟩)) (newS n) w' ∧ (∀ b, devO g (.slice (some ⟨gn, 0, none⟩) (128 * N) (128 * N)) (.slice (some ⟨gs, 0, none⟩) (128 * N) (128 * N)) (.slice none 0 0) b → w.heap.size ≤ b) by
      have hlen : (bv (List.replicate (128 * N) 0)).length = 128 * N := by rw [bv_len, List.length_replicate]
      have mk : ∀ gx, w'.ownsRow w.heap.size 5 1 (.slice (some ⟨gx, 0, none⟩) (128 * N) (128 * N)) (128 * N) (bv (List.replicate (128 * N) 0)) → RowV 5 (.slice (some ⟨gx, 0, none⟩) (128 * N) (128 * N)) (secs (List.replicate N (List.replicate 128 0))).flatten w' := fun gx hx => by
        rw [secs_zeros]
        show w'.ownsRow 0 5 1 _ (bv (List.replicate (128 * N) 0)).length _
        rw [hlen]
        exact ownsRow_zero hx
      rw [HNW.out]
      refine ⟨⟨g, _, _, _, 0, rfl, rfl, ⟨hc, mk gn hr, mk gs hq, RowK.nil _ _ _, fun b h1 h2 => ?_⟩, fun e => absurd rfl e⟩, ?_⟩
      · simp only [Value.ownBlock, Option.some.injEq] at h1 h2
        omega
      · rintro b (hb | hb | hb | hb)
        · omega
        · exact (World.ownsRow.lt hr b hb).1
        · exact (World.ownsRow.lt hq b hb).1
        · cases hb)
  by_cases hn : n < 0
  · obtain rfl : N = 0 := by omega
    clear hN2
    have HB2 := Lib.hid (show 1 * 0 ≤ 281474976710656 by decide)
    have HB3 := Lib.hid (show 0 ≤ maxLen by unfold maxLen; omega)
    go_enter Try.func7, Try.ntmps7
    go_upto_region 2 with (fail)
    refine wp_region_free 4 (fun q V w' => Val q V 0 (.int .i64 ((0 : Nat) : Int)) ∧ ZRow q V w.heap.size 1 0 w' ∧ Val q V 2 (.int .i64 ((0 : Nat) : Int)) ∧ ZRow q V w.heap.size 3 0 w' ∧ Two q V 1 3 ∧ Below w.heap.size w w') (fun _ => undef) (by kernel_rfl) (by kernel_rfl) (by kernel_rfl) (by simp only [List.take_succ_cons, List.take_zero, putAll, Act.put, List.setIfInBounds_toArray, List.set_cons_zero, List.set_cons_succ]) ⟨Val.none, ZRow.none, Val.none, ZRow.none, Two.none, (Below.refl _ _).drew⟩ ?_ ?_
    · simp only [List.take_succ_cons, List.take_zero, putAll, Nat.zero_add, Nat.reduceAdd, Act.put, List.setIfInBounds_toArray, List.set_cons_zero, List.set_cons_succ]
      refine FreeSteps.cons ?_ (FreeSteps.cons ?_ (FreeSteps.cons ?_ (FreeSteps.cons ?_ FreeSteps.nil)))
      all_goals (refine FreeStep.fresh rfl ?_; rintro q V wq hr hu ⟨h0, h1, h2, h3, h4, hb⟩ K hK)
      · exact op_move (.tmp 3) rfl _ rfl (hK _ _ ⟨.same, h1.ne (by decide) (Below.refl _ _), h2.ne (by decide), h3.ne (by decide) (Below.refl _ _), h4.ne (by decide) (by decide), hb⟩)
      · refine op_make_full (.tmp 8) (.tmp 8) 40 rfl w.heap.size 5 (.int .u8 0) 1 1 Try.underlying40 Try.infoU8 .i64 .i64 0 (h0 (hr { on := 0, ground := .data } (by simp) rfl)) (h0 (hr { on := 0, ground := .data } (by simp) rfl)) HB2.out HB3.out hb.size ?_
        intro w' ho hg
        rw [madeCells_bytes] at ho
        have hbw : Below wq.heap.size wq w' := (Below.refl _ _).grown hg (Nat.le_refl _) (by intro g hg; cases hg)
        exact hK _ _ ⟨h0.ne (by decide), .same ho, h2.ne (by decide), h3.ne (by decide) hbw, h3.two (by decide), hb.trans (hbw.mono hb.size)⟩
      · exact op_move (.tmp 3) rfl _ rfl (hK _ _ ⟨h0.ne (by decide), h1.ne (by decide) (Below.refl _ _), .same, h3.ne (by decide) (Below.refl _ _), h4.ne (by decide) (by decide), hb⟩)
      · refine op_make_full (.tmp 10) (.tmp 10) 40 rfl w.heap.size 5 (.int .u8 0) 1 1 Try.underlying40 Try.infoU8 .i64 .i64 0 (h2 (hr { on := 2, ground := .data } (by simp) rfl)) (h2 (hr { on := 2, ground := .data } (by simp) rfl)) HB2.out HB3.out hb.size ?_
        intro w' ho hg
        rw [madeCells_bytes] at ho
        have hbw : Below wq.heap.size wq w' := (Below.refl _ _).grown hg (Nat.le_refl _) (by intro g hg; cases hg)
        exact hK _ _ ⟨h0.ne (by decide), h1.ne (by decide) hbw, h2.ne (by decide), .same ho, (h1.two (by decide)).flip, hb.trans (hbw.mono hb.size)⟩
    rintro q V w5 hall ⟨h0, h1, h2, h3, h4, hb⟩
    have v0 := h0 (hall 0 (by decide))
    obtain ⟨gn, v1, hr1⟩ := h1 (hall 1 (by decide))
    have v2 := h2 (hall 2 (by decide))
    obtain ⟨gs, v3, hr3⟩ := h3 (hall 3 (by decide))
    have hne := h4 (hall 1 (by decide)) (hall 3 (by decide))
    rw [v1, v3] at hne
    simp only [List.take_succ_cons, List.take_zero, List.drop_succ_cons, List.drop_zero, putAll, Nat.zero_add, Nat.reduceAdd, v0, v1, v2, v3, Act.put, List.setIfInBounds_toArray, List.set_cons_zero, List.set_cons_succ]
    have HR1 := Lib.hid (hr1.alloc (.cells (devV (.slice (some ⟨gn, 0, none⟩) 0 0) (.slice (some ⟨gs, 0, none⟩) 0 0) (.slice none 0 0) false 0 0 0) 47))
    have HR3 := Lib.hid (hr3.alloc (.cells (devV (.slice (some ⟨gn, 0, none⟩) 0 0) (.slice (some ⟨gs, 0, none⟩) 0 0) (.slice none 0 0) false 0 0 0) 47))
    have HCC := Lib.hid (show Cells w5.heap.size 47 (devV (.slice (some ⟨gn, 0, none⟩) 0 0) (.slice (some ⟨gs, 0, none⟩) 0 0) (.slice none 0 0) false 0 0 0) (w5.alloc (.cells (devV (.slice (some ⟨gn, 0, none⟩) 0 0) (.slice (some ⟨gs, 0, none⟩) 0 0) (.slice none 0 0) false 0 0 0) 47)) from heap_alloc_new w5 _)
    have HB6 := Lib.hid (show Below w.heap.size w (w5.alloc (.cells (devV (.slice (some ⟨gn, 0, none⟩) 0 0) (.slice (some ⟨gs, 0, none⟩) 0 0) (.slice none 0 0) false 0 0 0) 47)) from hb.alloc hb.size _)
    have HBS := Lib.hid hb.size
    have HNE := Lib.hid (show gn ≠ gs from fun e => hne (by rw [e]))
    clear h0 h1 h2 h3 h4 hb v0 v1 v2 v3 hr1 hr3 hne hall
    go_wp2_with fail
    go_ret
    obtain ⟨hd, ho⟩ := HFIN.out w5.heap.size gn gs _ HCC.out HR1.out HR3.out HNE.out HBS.out
    first
      | exact ⟨⟨_, _, rfl, hd, ho⟩, HB6.out⟩
      | exact ⟨⟨_, rfl, _, hd, ho⟩, HB6.out⟩
  · by_cases hn2 : 16384 < n
    · have hM : (2097152 : Int) = ((128 * N : Nat) : Int) := by omega
      have HM := Shut.mk hM
      have HB2 := Lib.hid (show 1 * (128 * N) ≤ 281474976710656 by omega)
      have HB3 := Lib.hid (show 128 * N ≤ maxLen by unfold maxLen; omega)
      clear hN2 hM
      go_enter Try.func7, Try.ntmps7
      go_upto_region 2 with (fail)
      rw [HM.out]
      refine wp_region_free 4 (fun q V w' => Val q V 0 (.int .i64 ((128 * N : Nat) : Int)) ∧ ZRow q V w.heap.size 1 (128 * N) w' ∧ Val q V 2 (.int .i64 ((128 * N : Nat) : Int)) ∧ ZRow q V w.heap.size 3 (128 * N) w' ∧ Two q V 1 3 ∧ Below w.heap.size w w') (fun _ => undef) (by kernel_rfl) (by kernel_rfl) (by kernel_rfl) (by simp only [List.take_succ_cons, List.take_zero, putAll, Act.put, List.setIfInBounds_toArray, List.set_cons_zero, List.set_cons_succ]) ⟨Val.none, ZRow.none, Val.none, ZRow.none, Two.none, (Below.refl _ _).drew⟩ ?_ ?_
      · simp only [List.take_succ_cons, List.take_zero, putAll, Nat.zero_add, Nat.reduceAdd, Act.put, List.setIfInBounds_toArray, List.set_cons_zero, List.set_cons_succ]
        refine FreeSteps.cons ?_ (FreeSteps.cons ?_ (FreeSteps.cons ?_ (FreeSteps.cons ?_ FreeSteps.nil)))
        all_goals (refine FreeStep.fresh rfl ?_; rintro q V wq hr hu ⟨h0, h1, h2, h3, h4, hb⟩ K hK)
        · exact op_move (.tmp 3) rfl _ rfl (hK _ _ ⟨.same, h1.ne (by decide) (Below.refl _ _), h2.ne (by decide), h3.ne (by decide) (Below.refl _ _), h4.ne (by decide) (by decide), hb⟩)
        · refine op_make_full (.tmp 8) (.tmp 8) 40 rfl w.heap.size 5 (.int .u8 0) 1 1 Try.underlying40 Try.infoU8 .i64 .i64 (128 * N) (h0 (hr { on := 0, ground := .data } (by simp) rfl)) (h0 (hr { on := 0, ground := .data } (by simp) rfl)) HB2.out HB3.out hb.size ?_
          intro w' ho hg
          rw [madeCells_bytes] at ho
          have hbw : Below wq.heap.size wq w' := (Below.refl _ _).grown hg (Nat.le_refl _) (by intro g hg; cases hg)
          exact hK _ _ ⟨h0.ne (by decide), .same ho, h2.ne (by decide), h3.ne (by decide) hbw, h3.two (by decide), hb.trans (hbw.mono hb.size)⟩
        · exact op_move (.tmp 3) rfl _ rfl (hK _ _ ⟨h0.ne (by decide), h1.ne (by decide) (Below.refl _ _), .same, h3.ne (by decide) (Below.refl _ _), h4.ne (by decide) (by decide), hb⟩)
        · refine op_make_full (.tmp 10) (.tmp 10) 40 rfl w.heap.size 5 (.int .u8 0) 1 1 Try.underlying40 Try.infoU8 .i64 .i64 (128 * N) (h2 (hr { on := 2, ground := .data } (by simp) rfl)) (h2 (hr { on := 2, ground := .data } (by simp) rfl)) HB2.out HB3.out hb.size ?_
          intro w' ho hg
          rw [madeCells_bytes] at ho
          have hbw : Below wq.heap.size wq w' := (Below.refl _ _).grown hg (Nat.le_refl _) (by intro g hg; cases hg)
          exact hK _ _ ⟨h0.ne (by decide), h1.ne (by decide) hbw, h2.ne (by decide), .same ho, (h1.two (by decide)).flip, hb.trans (hbw.mono hb.size)⟩
      rintro q V w5 hall ⟨h0, h1, h2, h3, h4, hb⟩
      have v0 := h0 (hall 0 (by decide))
      obtain ⟨gn, v1, hr1⟩ := h1 (hall 1 (by decide))
      have v2 := h2 (hall 2 (by decide))
      obtain ⟨gs, v3, hr3⟩ := h3 (hall 3 (by decide))
      have hne := h4 (hall 1 (by decide)) (hall 3 (by decide))
      rw [v1, v3] at hne
      simp only [List.take_succ_cons, List.take_zero, List.drop_succ_cons, List.drop_zero, putAll, Nat.zero_add, Nat.reduceAdd, v0, v1, v2, v3, Act.put, List.setIfInBounds_toArray, List.set_cons_zero, List.set_cons_succ]
      have HR1 := Lib.hid (hr1.alloc (.cells (devV (.slice (some ⟨gn, 0, none⟩) (128 * N) (128 * N)) (.slice (some ⟨gs, 0, none⟩) (128 * N) (128 * N)) (.slice none 0 0) false 0 0 0) 47))
      have HR3 := Lib.hid (hr3.alloc (.cells (devV (.slice (some ⟨gn, 0, none⟩) (128 * N) (128 * N)) (.slice (some ⟨gs, 0, none⟩) (128 * N) (128 * N)) (.slice none 0 0) false 0 0 0) 47))
      have HCC := Lib.hid (show Cells w5.heap.size 47 (devV (.slice (some ⟨gn, 0, none⟩) (128 * N) (128 * N)) (.slice (some ⟨gs, 0, none⟩) (128 * N) (128 * N)) (.slice none 0 0) false 0 0 0) (w5.alloc (.cells (devV (.slice (some ⟨gn, 0, none⟩) (128 * N) (128 * N)) (.slice (some ⟨gs, 0, none⟩) (128 * N) (128 * N)) (.slice none 0 0) false 0 0 0) 47)) from heap_alloc_new w5 _)
      have HB6 := Lib.hid (show Below w.heap.size w (w5.alloc (.cells (devV (.slice (some ⟨gn, 0, none⟩) (128 * N) (128 * N)) (.slice (some ⟨gs, 0, none⟩) (128 * N) (128 * N)) (.slice none 0 0) false 0 0 0) 47)) from hb.alloc hb.size _)
      have HBS := Lib.hid hb.size
      have HNE := Lib.hid (show gn ≠ gs from fun e => hne (by rw [e]))
      clear h0 h1 h2 h3 h4 hb v0 v1 v2 v3 hr1 hr3 hne hall
      go_wp2_with fail
      go_ret
      obtain ⟨hd, ho⟩ := HFIN.out w5.heap.size gn gs _ HCC.out HR1.out HR3.out HNE.out HBS.out
      first
      | exact ⟨⟨_, _, rfl, hd, ho⟩, HB6.out⟩
      | exact ⟨⟨_, rfl, _, hd, ho⟩, HB6.out⟩
    · have hM : (N : Int) * 128 = ((128 * N : Nat) : Int) := by omega
      have HM := Shut.mk hM
      obtain rfl : n = (N : Int) := by omega
      have HB2 := Lib.hid (show 1 * (128 * N) ≤ 281474976710656 by omega)
      have HB3 := Lib.hid (show 128 * N ≤ maxLen by unfold maxLen; omega)
      clear hN2 hM
      go_enter Try.func7, Try.ntmps7
      go_upto_region 2 with (fail)
      rw [HM.out]
      refine wp_region_free 4 (fun q V w' => Val q V 0 (.int .i64 ((128 * N : Nat) : Int)) ∧ ZRow q V w.heap.size 1 (128 * N) w' ∧ Val q V 2 (.int .i64 ((128 * N : Nat) : Int)) ∧ ZRow q V w.heap.size 3 (128 * N) w' ∧ Two q V 1 3 ∧ Below w.heap.size w w') (fun _ => undef) (by kernel_rfl) (by kernel_rfl) (by kernel_rfl) (by simp only [List.take_succ_cons, List.take_zero, putAll, Act.put, List.setIfInBounds_toArray, List.set_cons_zero, List.set_cons_succ]) ⟨Val.none, ZRow.none, Val.none, ZRow.none, Two.none, (Below.refl _ _).drew⟩ ?_ ?_
      · simp only [List.take_succ_cons, List.take_zero, putAll, Nat.zero_add, Nat.reduceAdd, Act.put, List.setIfInBounds_toArray, List.set_cons_zero, List.set_cons_succ]
        refine FreeSteps.cons ?_ (FreeSteps.cons ?_ (FreeSteps.cons ?_ (FreeSteps.cons ?_ FreeSteps.nil)))
        all_goals (refine FreeStep.fresh rfl ?_; rintro q V wq hr hu ⟨h0, h1, h2, h3, h4, hb⟩ K hK)
        · exact op_move (.tmp 3) rfl _ rfl (hK _ _ ⟨.same, h1.ne (by decide) (Below.refl _ _), h2.ne (by decide), h3.ne (by decide) (Below.refl _ _), h4.ne (by decide) (by decide), hb⟩)
        · refine op_make_full (.tmp 8) (.tmp 8) 40 rfl w.heap.size 5 (.int .u8 0) 1 1 Try.underlying40 Try.infoU8 .i64 .i64 (128 * N) (h0 (hr { on := 0, ground := .data } (by simp) rfl)) (h0 (hr { on := 0, ground := .data } (by simp) rfl)) HB2.out HB3.out hb.size ?_
          intro w' ho hg
          rw [madeCells_bytes] at ho
          have hbw : Below wq.heap.size wq w' := (Below.refl _ _).grown hg (Nat.le_refl _) (by intro g hg; cases hg)
          exact hK _ _ ⟨h0.ne (by decide), .same ho, h2.ne (by decide), h3.ne (by decide) hbw, h3.two (by decide), hb.trans (hbw.mono hb.size)⟩
        · exact op_move (.tmp 3) rfl _ rfl (hK _ _ ⟨h0.ne (by decide), h1.ne (by decide) (Below.refl _ _), .same, h3.ne (by decide) (Below.refl _ _), h4.ne (by decide) (by decide), hb⟩)
        · refine op_make_full (.tmp 10) (.tmp 10) 40 rfl w.heap.size 5 (.int .u8 0) 1 1 Try.underlying40 Try.infoU8 .i64 .i64 (128 * N) (h2 (hr { on := 2, ground := .data } (by simp) rfl)) (h2 (hr { on := 2, ground := .data } (by simp) rfl)) HB2.out HB3.out hb.size ?_
          intro w' ho hg
          rw [madeCells_bytes] at ho
          have hbw : Below wq.heap.size wq w' := (Below.refl _ _).grown hg (Nat.le_refl _) (by intro g hg; cases hg)
          exact hK _ _ ⟨h0.ne (by decide), h1.ne (by decide) hbw, h2.ne (by decide), .same ho, (h1.two (by decide)).flip, hb.trans (hbw.mono hb.size)⟩
      rintro q V w5 hall ⟨h0, h1, h2, h3, h4, hb⟩
      have v0 := h0 (hall 0 (by decide))
      obtain ⟨gn, v1, hr1⟩ := h1 (hall 1 (by decide))
      have v2 := h2 (hall 2 (by decide))
      obtain ⟨gs, v3, hr3⟩ := h3 (hall 3 (by decide))
      have hne := h4 (hall 1 (by decide)) (hall 3 (by decide))
      rw [v1, v3] at hne
      simp only [List.take_succ_cons, List.take_zero, List.drop_succ_cons, List.drop_zero, putAll, Nat.zero_add, Nat.reduceAdd, v0, v1, v2, v3, Act.put, List.setIfInBounds_toArray, List.set_cons_zero, List.set_cons_succ]
      have HR1 := Lib.hid (hr1.alloc (.cells (devV (.slice (some ⟨gn, 0, none⟩) (128 * N) (128 * N)) (.slice (some ⟨gs, 0, none⟩) (128 * N) (128 * N)) (.slice none 0 0) false 0 0 0) 47))
      have HR3 := Lib.hid (hr3.alloc (.cells (devV (.slice (some ⟨gn, 0, none⟩) (128 * N) (128 * N)) (.slice (some ⟨gs, 0, none⟩) (128 * N) (128 * N)) (.slice none 0 0) false 0 0 0) 47))
      have HCC := Lib.hid (show Cells w5.heap.size 47 (devV (.slice (some ⟨gn, 0, none⟩) (128 * N) (128 * N)) (.slice (some ⟨gs, 0, none⟩) (128 * N) (128 * N)) (.slice none 0 0) false 0 0 0) (w5.alloc (.cells (devV (.slice (some ⟨gn, 0, none⟩) (128 * N) (128 * N)) (.slice (some ⟨gs, 0, none⟩) (128 * N) (128 * N)) (.slice none 0 0) false 0 0 0) 47)) from heap_alloc_new w5 _)
      have HB6 := Lib.hid (show Below w.heap.size w (w5.alloc (.cells (devV (.slice (some ⟨gn, 0, none⟩) (128 * N) (128 * N)) (.slice (some ⟨gs, 0, none⟩) (128 * N) (128 * N)) (.slice none 0 0) false 0 0 0) 47)) from hb.alloc hb.size _)
      have HBS := Lib.hid hb.size
      have HNE := Lib.hid (show gn ≠ gs from fun e => hne (by rw [e]))
      clear h0 h1 h2 h3 h4 hb v0 v1 v2 v3 hr1 hr3 hne hall
      go_wp2_with fail
      go_ret
      obtain ⟨hd, ho⟩ := HFIN.out w5.heap.size gn gs _ HCC.out HR1.out HR3.out HNE.out HBS.out
      first
      | exact ⟨⟨_, _, rfl, hd, ho⟩, HB6.out⟩
      | exact ⟨⟨_, rfl, _, hd, ho⟩, HB6.out⟩
end Go.Proofs.Ythnagnjcbgcnfaa
