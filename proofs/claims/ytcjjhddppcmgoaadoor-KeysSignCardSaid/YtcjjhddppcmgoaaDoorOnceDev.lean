/-
  The developers' reach, ends, Leaf, Sign, Meet.
-/
import Derived.Test.YtcjjhddppcmgoaaDoorOnceB
/-! The developers' reach, ends, Leaf, Sign, Meet. -/
namespace Go.Proofs.YtcjjhddppcmgoaaDoor
open Go.RowKit Go.BigFrame

/-- The numbers of k elements, one behind the other. -/
def rowN (f : Nat → List Nat) : Nat → List Nat
  | 0 => []
  | k + 1 => rowN f k ++ f k
theorem rowN_len {f : Nat → List Nat} (hf : ∀ j, (f j).length = 16) (k : Nat) : (rowN f k).length = 16 * k := by
  induction k with
  | zero => rfl
  | succ k ih => rw [rowN, List.length_append, ih, hf]; omega
theorem rowN_lt {f : Nat → List Nat} (hf : ∀ j, ∀ y ∈ f j, y < 256) (k : Nat) : ∀ y ∈ rowN f k, y < 256 := by
  induction k with
  | zero => intro y hy; cases hy
  | succ k ih =>
    intro y hy
    rw [rowN, List.mem_append] at hy
    exact hy.elim (ih y) (hf k y)
theorem txt_rowN (f : Nat → List Nat) (k : Nat) : txt (rowN f k) = rowE f k := by
  induction k with
  | zero => rfl
  | succ k ih => rw [rowN, rowE, txt_append, ih]
theorem Tryd.infoByte4 : (Tryd.prog.info? 5).map (fun i => (i.zero, i.size, i.bytes)) = some (some (.int .u8 0), 1, 1) := by kernel_rfl

def toF (seed : List UInt8) (i : Int) (to : List Nat) (j : Nat) : List Nat := walkI (secN seed i j) (placeB i j) 0 (to.getD j 0 : Nat)
theorem toF_len (seed : List UInt8) (i : Int) (to : List Nat) (j : Nat) : (toF seed i to j).length = 16 := walkI_len (secN_len _ _ _) _ _ _
theorem toF_lt (seed : List UInt8) (i : Int) (to : List Nat) (j : Nat) : ∀ y ∈ toF seed i to j, y < 256 := walkI_lt (secN_lt _ _ _) _ _ _

set_option maxHeartbeats 4000000 in
set_option maxRecDepth 100000 in
theorem dev_reach (seed : List UInt8) (i : Int) (to : List Nat) (w : World) (hs : seed.length ≤ 4000) (hi0 : -9223372036854775808 ≤ i) (hi : i ≤ 9223372036854775807) (ht : to.length = 35) (lt : ∀ d ∈ to, d < 16) (hk : KAt w) :
    Calls Tryd.prog 45 #[.string ⟨seed.toArray⟩, .int .i64 i, .agg (nums .i64 to).toArray] w fun e w' => e = .returned (.string ⟨(rowE (toF seed i to) 35).toArray⟩) ∧ Below w.heap.size w w' := by
  obtain ⟨i0, hi2, hz0, hz1, hz2⟩ := info_parts Tryd.infoByte4
  have HS := Lib.hid hs
  have HK := Lib.hid hk
  have HT := Lib.hid ht
  have LT := Lib.hid lt
  have HI0 := Lib.hid hi0
  have HI1 := Lib.hid hi
  have HY := Lib.hid hi2
  have HY0 := Lib.hid hz0
  have HY1 := Lib.hid hz1
  have HY2 := Lib.hid hz2
  clear hs hk ht lt hi0 hi hi2 hz0 hz1 hz2
  go_enter Tryd.func45, Tryd.ntmps45
  go_upto_region 1 with (fail)
  obtain ⟨w1, hw1⟩ : ∃ x', x' = w.alloc (.cells (nums .i64 to).toArray 73) := ⟨_, rfl⟩
  rw [← hw1]
  have hb1 : Below w.heap.size w w1 := by rw [hw1]; exact (Below.refl _ _).alloc (Nat.le_refl _) _
  have HT1 := Lib.hid (show Blk w.heap.size 73 .i64 to w1 by rw [hw1]; exact heap_alloc_new w _)
  have HB1 := Lib.hid hb1
  have HK1 := Lib.hid (HK.out.below hb1)
  clear hb1 hw1 HK
  go_wp2_with (at_make; refine wpList_make_own _ rfl _ _ 44 rfl w1.heap.size 5 i0 (.int .u8 0) 1 Tryd.underlying44 HY.out HY0.out HY1.out .i64 .i64 560 560 rfl rfl rfl (by rw [HY2.out]; decide) (by unfold maxLen; omega) (Nat.le_refl _) ?_)
  intro w2 ho hgrow
  have hb2 : Below w1.heap.size w1 w2 := (Below.refl w1.heap.size w1).grown hgrow (Nat.le_refl _) (by intro g hg; cases hg)
  have HO := Lib.hid (show OwnN w1.heap.size 5 .u8 (.slice (some ⟨w1.heap.size, 0, none⟩) 0 560) [] w2 from ho)
  have HB2 := Lib.hid hb2
  have HT2 := Lib.hid (HT1.out.below hb2)
  have HIT := Lib.hid (show (Tryd.prog.info? 73).map (·.size) = some to.length by rw [HT.out]; exact Tryd.infoDg)
  clear ho hgrow hb2
  go_wp2_with (refine wpList_load_nums rfl 73 _ rfl w.heap.size .i64 _ 73 _ rfl HT2.out Tryd.underlying73 rfl HIT.out ?_)
  go_loopw [7, 14] (fun v n wq => ∃ k : Nat, k ≤ 35 ∧ n = .int .i64 k ∧ OwnN w1.heap.size 5 .u8 v (rowN (toF seed i to) k) wq ∧ Below w1.heap.size w1 wq) (fun _ n _ => 35 - (intOf n).toNat)
  case atStart => exact ⟨0, by omega, rfl, HO.out, HB2.out⟩
  case round =>
    clear HO HB2 HT2
    obtain ⟨k, hk, rfl, ho, hb⟩ := hrel
    obtain ⟨ao, cp, rfl⟩ := ho.form
    have HO := Lib.hid ho
    have HB := Lib.hid hb
    have HW := Lib.hid hb.size
    have HKr := Lib.hid (HK1.out.below hb)
    clear ho hb
    by_cases hlk : k < 35
    · have hix := fun w => run_index_nums (P := Tryd.prog) 73 3 35 .i64 to k w Tryd.underlying73 HT.out Tryd.sizeOf3 Tryd.isAgg3 hlk
      have hx := getD_lt LT.out (by decide) k
      have HF := Lib.hid (show toF seed i to k = walkI (secN seed i k) (placeB i k) 0 (to.getD k 0 : Nat) from rfl)
      generalize to.getD k 0 = y at hix hx HF
      go_upto_region 6 with (fail)
      obtain ⟨w3, hw3⟩ : ∃ x', x' = wr.alloc (.cells #[.int .i64 i, .int .i64 (k : Int)] 88) := ⟨_, rfl⟩
      rw [← hw3]
      have hb3 : Below wr.heap.size wr w3 := by rw [hw3]; exact (Below.refl _ _).alloc (Nat.le_refl _) _
      have HP3 := Lib.hid (show Cells wr.heap.size 88 #[.int .i64 i, .int .i64 (k : Int)] w3 by rw [hw3]; exact heap_alloc_new wr _)
      have HK3 := Lib.hid (HKr.out.below hb3)
      have HO3 := Lib.hid (HO.out.below hb3)
      have HB3 := Lib.hid (HB.out.trans (hb3.mono HB.out.size))
      clear hw3 hb3 HO HB HKr hix
      have HAL := Lib.hid (show ∀ w : World, (Instr.alloc 31 true (.tuple #[])).run Tryd.prog w = .ok (.pointer (some ⟨w.heap.size, 0, none⟩)) (w.alloc (.cells (nums .u8 (List.replicate 16 0)).toArray 31)) from fun w => by kernel_rfl)
      refine wp_region_free 7 (fun s V w' => SS w3 w' ∧ Val s V 0 (.string ⟨seed.toArray⟩) ∧ Val s V 1 (.agg #[.int .i64 i, .int .i64 (k : Int)]) ∧ Val s V 2 (.agg (nums .u8 (secN seed i k)).toArray) ∧ Val s V 3 (.agg #[.int .i64 i, .int .i64 (k : Int)]) ∧ Val s V 4 (.int .i64 (y : Int)) ∧ Val s V 5 (.agg (nums .u8 (toF seed i to k)).toArray) ∧ New s V w3.heap.size 6 31 .u8 (List.replicate 16 0) w') (fun | 0 => u21 | 1 => u22 | 2 => u23 | 3 => u24 | 4 => u25 | 5 => u26 | _ => u11) (by kernel_rfl) (by kernel_rfl) (by kernel_rfl) rfl ⟨SS.start HK3.out, Val.none, Val.none, Val.none, Val.none, Val.none, Val.none, New.none⟩ ?_ ?_
      · simp only [List.take_succ_cons, List.take_zero, putAll, Nat.zero_add, Nat.reduceAdd, Act.put, List.setIfInBounds_toArray, List.set_cons_zero, List.set_cons_succ]
        refine FreeSteps.cons ?_ (FreeSteps.cons ?_ (FreeSteps.cons ?_ (FreeSteps.cons ?_ (FreeSteps.cons ?_ (FreeSteps.cons ?_ (FreeSteps.cons ?_ (FreeSteps.nil)))))))
        all_goals (refine FreeStep.plain rfl ?_; rintro s V wq hr ⟨hB, h0, h1, h2, h3, h4, h5, h6⟩ K hK)
        · exact op_move (.tmp 0) rfl (.string ⟨seed.toArray⟩) rfl (hK _ _ ⟨hB, .same, h1.ne (by decide), h2.ne (by decide), h3.ne (by decide), h4.ne (by decide), h5.ne (by decide), h6.ne (by decide) (Below.refl _ _)⟩)
        · exact op_load_cells 88 (.tmp 10) rfl wr.heap.size #[.int .i64 i, .int .i64 (k : Int)] 88 _ rfl (HP3.out.below hB.1) Tryd.underlying88 rfl Tryd.infoP (hK _ _ ⟨hB, h0.ne (by decide), .same, h2.ne (by decide), h3.ne (by decide), h4.ne (by decide), h5.ne (by decide), h6.ne (by decide) (Below.refl _ _)⟩)
        · have v0 := h0 (hr { on := 0, ground := .data } (by simp) rfl)
          have v1 := h1 (hr { on := 1, ground := .data } (by simp) rfl)
          refine op_call Tryd.func64 rfl rfl rfl [.string ⟨seed.toArray⟩, .agg #[.int .i64 i, .int .i64 (k : Int)]] (cons_eq v0 (cons_eq v1 rfl)) (dev_secret seed i k wq HS.out HI0.out HI1.out (by omega) (by omega) hB.2) ?_
          rintro e w' ⟨rfl, hb⟩
          exact ⟨_, rfl, hK _ _ ⟨hB.next hb, h0.ne (by decide), h1.ne (by decide), .same, h3.ne (by decide), h4.ne (by decide), h5.ne (by decide), h6.ne (by decide) hb⟩⟩
        · exact op_load_cells 88 (.tmp 10) rfl wr.heap.size #[.int .i64 i, .int .i64 (k : Int)] 88 _ rfl (HP3.out.below hB.1) Tryd.underlying88 rfl Tryd.infoP (hK _ _ ⟨hB, h0.ne (by decide), h1.ne (by decide), h2.ne (by decide), .same, h4.ne (by decide), h5.ne (by decide), h6.ne (by decide) (Below.refl _ _)⟩)
        · exact op_move (.tmp 9) rfl (.int .i64 (y : Int)) rfl (hK _ _ ⟨hB, h0.ne (by decide), h1.ne (by decide), h2.ne (by decide), h3.ne (by decide), .same, h5.ne (by decide), h6.ne (by decide) (Below.refl _ _)⟩)
        · have v2 := h2 (hr { on := 2, ground := .data } (by simp) rfl)
          have v3 := h3 (hr { on := 3, ground := .data } (by simp) rfl)
          have v4 := h4 (hr { on := 4, ground := .data } (by simp) rfl)
          refine op_call Tryd.func63 rfl rfl rfl [.agg (nums .u8 (secN seed i k)).toArray, .agg #[.int .i64 i, .int .i64 (k : Int)], .int .i64 0, .int .i64 (y : Int)] (cons_eq v2 (cons_eq v3 (cons_eq rfl (cons_eq v4 rfl)))) (by have h := dev_walk (secN seed i k) i k 0 y wq (secN_len _ _ _) (secN_lt _ _ _) HI0.out HI1.out (by omega) (by omega) (by omega) (by omega) (by omega) (by omega) hB.2; rw [← HF.out] at h; exact h) ?_
          rintro e w' ⟨rfl, hb⟩
          exact ⟨_, rfl, hK _ _ ⟨hB.next hb, h0.ne (by decide), h1.ne (by decide), h2.ne (by decide), h3.ne (by decide), h4.ne (by decide), .same, h6.ne (by decide) hb⟩⟩
        · have hb : Below wq.heap.size wq (wq.alloc (.cells (nums .u8 (List.replicate 16 0)).toArray 31)) := (Below.refl _ _).alloc (Nat.le_refl _) _
          exact op_alloc 31 rfl _ HAL.out (hK _ _ ⟨hB.next hb, h0.ne (by decide), h1.ne (by decide), h2.ne (by decide), h3.ne (by decide), h4.ne (by decide), h5.ne (by decide), .same hB.1.size⟩)
      · rintro s V w4 hall ⟨hB, h0, h1, h2, h3, h4, h5, h6⟩
        have v5 := h5 (hall 5 (by decide))
        obtain ⟨gx, v6, hgx, hx6⟩ := h6 (hall 6 (by decide))
        simp only [List.take_succ_cons, List.take_zero, List.drop_succ_cons, List.drop_zero, putAll, Nat.zero_add, Nat.reduceAdd, v5, v6, Act.put, List.setIfInBounds_toArray, List.set_cons_zero, List.set_cons_succ]
        clear h0 h1 h2 h3 h4 h5 h6 v5 v6 hall HAL
        have HK4 := Lib.hid hB.2
        have HO4 := Lib.hid (HO3.out.below hB.1)
        have HB4 := Lib.hid (HB3.out.trans (hB.1.mono HB3.out.size))
        have HX4 := Lib.hid hx6
        have HGX := Lib.hid (show w1.heap.size ≤ gx by have := HB3.out.size; omega)
        have HAP := Lib.hid (show ∀ g, (Value.slice ao (rowN (toF seed i to) k).length cp).ownBlock = some g → gx ≠ g from fun g hg e => by have := (World.ownsRow.lt HO3.out g hg).2; omega)
        clear hB hgx hx6 HK3 HO3 HB3 HP3
        have HI := Lib.hid (show (Tryd.prog.info? 31).map (·.size) = some (toF seed i to k).length by rw [toF_len]; exact Tryd.infoE)
        have HL2 := Lib.hid (show (List.replicate 16 0).length = (toF seed i to k).length by rw [toF_len]; rfl)
        have HFL := Lib.hid (toF_len seed i to k)
        have HRL := Lib.hid (rowN_len (toF_len seed i to) k)
        have HRN := Lib.hid (show rowN (toF seed i to) (k + 1) = rowN (toF seed i to) k ++ toF seed i to k from rfl)
        generalize toF seed i to k = x at *
        generalize rowN (toF seed i to) k = R at *
        go_wp2_with (refine wpList_store_nums rfl 31 _ _ rfl rfl gx .u8 _ x 31 rfl rfl HX4.out HI.out HL2.out ?_)
        intro w5 hc' hb'
        have HX5 := Lib.hid (show Blk gx 31 .u8 x w5 from hc'.out)
        have HB5 := Lib.hid (show Below w1.heap.size w1 w5 from But.toBelow HB4.out hb'.out HGX.out HB4.out.size)
        have HO5 := Lib.hid (HO4.out.but hb'.out HAP.out)
        have HLA := Lib.hid (show R.length + x.length ≤ maxLen by rw [HRL.out, HFL.out]; unfold maxLen; omega)
        have HLB := Lib.hid (show (R.length + x.length) * 1 ≤ 140737488355328 by rw [HRL.out, HFL.out]; omega)
        clear hc' hb' HX4 HB4 HO4 HK4 HI HL2
        go_wp2_with (refine wpList_append_nums rfl (.tmp 27) (.tmp 28) 44 5 rfl w1.heap.size .u8 1 Tryd.underlying44 Tryd.infoByte4 (.slice ao R.length cp) R x ⟨gx, 0, none⟩ 16 16 HFL.out.symm rfl HO5.out rfl (blk_news HX5.out) HLA.out HLB.out HB5.out.size ?_)
        intro v6 w6 ho6 hb6
        have HB6 := Lib.hid (show Below w1.heap.size w1 w6 from HB5.out.trans hb6.out)
        clear hb6
        go_wp2_with fail
        exact ⟨⟨k + 1, by omega, by go_num, by rw [HRN.out]; exact ho6.out, HB6.out⟩, by simp [intOf]; omega⟩
    · obtain rfl : k = 35 := by omega
      have hconv := conv_row (rowN (toF seed i to) 35) rfl (by rw [rowN_len (toF_len seed i to)]; decide) (rowN_lt (toF_lt seed i to) 35) HO.out
      rw [txt_rowN] at hconv
      have HBr := Lib.hid (HB1.out.trans (HB.out.mono HB1.out.size))
      clear HO HB HKr
      go_wp2_with fail
      go_ret
      exact ⟨rfl, HBr.out⟩
end Go.Proofs.YtcjjhddppcmgoaaDoor

/-! The developers' ends, Leaf, Sign, Meet. -/
namespace Go.Proofs.YtcjjhddppcmgoaaDoor
open Go.RowKit Go.BigFrame

theorem rowN_len' {f : Nat → List Nat} {k : Nat} (hf : ∀ j, j < k → (f j).length = 16) : (rowN f k).length = 16 * k := by
  induction k with
  | zero => rfl
  | succ k ih => rw [rowN, List.length_append, ih (fun j hj => hf j (by omega)), hf k (by omega)]; omega
def fromF (sig : List UInt8) (i : Int) (fr : List Nat) (j : Nat) : List Nat := walkI (byteNs (part sig j)) (placeB i j) (fr.getD j 0 : Nat) 15
theorem partN_len {sig : List UInt8} (h : sig.length = 560) {j : Nat} (hj : j < 35) : (byteNs (part sig j)).length = 16 := by rw [byteNs_len, part_len (k := 35) (by omega) hj]
theorem fromF_len {sig : List UInt8} (h : sig.length = 560) (i : Int) (fr : List Nat) {j : Nat} (hj : j < 35) : (fromF sig i fr j).length = 16 := walkI_len (partN_len h hj) _ _ _
theorem fromF_lt (sig : List UInt8) (i : Int) (fr : List Nat) (j : Nat) : ∀ y ∈ fromF sig i fr j, y < 256 := walkI_lt (byteNs_part_lt _ _) _ _ _

set_option maxHeartbeats 4000000 in
set_option maxRecDepth 100000 in
theorem dev_ends (sig : List UInt8) (i : Int) (fr : List Nat) (w : World) (hs : sig.length = 560) (hi0 : -9223372036854775808 ≤ i) (hi : i ≤ 9223372036854775807) (ht : fr.length = 35) (lt : ∀ d ∈ fr, d < 16) (hk : KAt w) :
    Calls Tryd.prog 60 #[.string ⟨sig.toArray⟩, .int .i64 i, .agg (nums .i64 fr).toArray] w fun e w' => e = .returned (.string ⟨(rowE (fromF sig i fr) 35).toArray⟩) ∧ Below w.heap.size w w' := by
  obtain ⟨i0, hi2, hz0, hz1, hz2⟩ := info_parts Tryd.infoByte4
  have HS := Lib.hid hs
  have HK := Lib.hid hk
  have HT := Lib.hid ht
  have LT := Lib.hid lt
  have HI0 := Lib.hid hi0
  have HI1 := Lib.hid hi
  have HY := Lib.hid hi2
  have HY0 := Lib.hid hz0
  have HY1 := Lib.hid hz1
  have HY2 := Lib.hid hz2
  clear hs hk ht lt hi0 hi hi2 hz0 hz1 hz2
  go_enter Tryd.func60, Tryd.ntmps60
  go_upto_region 1 with (fail)
  obtain ⟨w1, hw1⟩ : ∃ x', x' = w.alloc (.cells (nums .i64 fr).toArray 73) := ⟨_, rfl⟩
  rw [← hw1]
  have hb1 : Below w.heap.size w w1 := by rw [hw1]; exact (Below.refl _ _).alloc (Nat.le_refl _) _
  have HT1 := Lib.hid (show Blk w.heap.size 73 .i64 fr w1 by rw [hw1]; exact heap_alloc_new w _)
  have HB1 := Lib.hid hb1
  have HK1 := Lib.hid (HK.out.below hb1)
  clear hb1 hw1 HK
  go_wp2_with (at_make; refine wpList_make_own _ rfl _ _ 44 rfl w1.heap.size 5 i0 (.int .u8 0) 1 Tryd.underlying44 HY.out HY0.out HY1.out .i64 .i64 560 560 rfl rfl rfl (by rw [HY2.out]; decide) (by unfold maxLen; omega) (Nat.le_refl _) ?_)
  intro w2 ho hgrow
  have hb2 : Below w1.heap.size w1 w2 := (Below.refl w1.heap.size w1).grown hgrow (Nat.le_refl _) (by intro g hg; cases hg)
  have HO := Lib.hid (show OwnN w1.heap.size 5 .u8 (.slice (some ⟨w1.heap.size, 0, none⟩) 0 560) [] w2 from ho)
  have HB2 := Lib.hid hb2
  have HT2 := Lib.hid (HT1.out.below hb2)
  have HIT := Lib.hid (show (Tryd.prog.info? 73).map (·.size) = some fr.length by rw [HT.out]; exact Tryd.infoDg)
  clear ho hgrow hb2
  go_wp2_with (refine wpList_load_nums rfl 73 _ rfl w.heap.size .i64 _ 73 _ rfl HT2.out Tryd.underlying73 rfl HIT.out ?_)
  go_loopw [7, 13] (fun v n wq => ∃ k : Nat, k ≤ 35 ∧ n = .int .i64 k ∧ OwnN w1.heap.size 5 .u8 v (rowN (fromF sig i fr) k) wq ∧ Below w1.heap.size w1 wq) (fun _ n _ => 35 - (intOf n).toNat)
  case atStart => exact ⟨0, by omega, rfl, HO.out, HB2.out⟩
  case round =>
    clear HO HB2 HT2
    obtain ⟨k, hk, rfl, ho, hb⟩ := hrel
    obtain ⟨ao, cp, rfl⟩ := ho.form
    have HO := Lib.hid ho
    have HB := Lib.hid hb
    have HW := Lib.hid hb.size
    have HKr := Lib.hid (HK1.out.below hb)
    clear ho hb
    by_cases hlk : k < 35
    · have hix := fun w => run_index_nums (P := Tryd.prog) 73 3 35 .i64 fr k w Tryd.underlying73 HT.out Tryd.sizeOf3 Tryd.isAgg3 hlk
      have hx := getD_lt LT.out (by decide) k
      have HF := Lib.hid (show fromF sig i fr k = walkI (byteNs (part sig k)) (placeB i k) (fr.getD k 0 : Nat) 15 from rfl)
      generalize fr.getD k 0 = y at hix hx HF
      go_upto_region 6 with (fail)
      obtain ⟨w3, hw3⟩ : ∃ x', x' = wr.alloc (.cells (nums .u8 (List.replicate 16 0)).toArray 31) := ⟨_, rfl⟩
      change Code.wp _ _ _ _ (wr.alloc (.cells (nums .u8 (List.replicate 16 0)).toArray 31))
      rw [← hw3]
      have hb3 : Below wr.heap.size wr w3 := by rw [hw3]; exact (Below.refl _ _).alloc (Nat.le_refl _) _
      have HX3 := Lib.hid (show Blk wr.heap.size 31 .u8 (List.replicate 16 0) w3 by rw [hw3]; exact heap_alloc_new wr _)
      have HK3 := Lib.hid (HKr.out.below hb3)
      have HO3 := Lib.hid (HO.out.below hb3)
      have HB3 := Lib.hid (HB.out.trans (hb3.mono HB.out.size))
      clear hw3 hb3 HB HKr hix
      have hcut : (⟨sig.toArray⟩ : ByteArray).extract (k * 16) 560 = ⟨(sig.drop (k * 16)).toArray⟩ := by rw [← HS.out]; exact extract_tail sig (k * 16)
      have hsl : (⟨sig.toArray⟩ : ByteArray).size = 560 := by simp [ByteArray.size, HS.out]
      refine wp_region_class_tail (fun w' => SS w3 w') 5 (by kernel_rfl) (by kernel_rfl) (SS.start HK3.out) ?_
      simp only [List.take_succ_cons, List.take_zero, List.drop_succ_cons, List.drop_zero]
      repeat go_big_quiet_step ((intro hs'; rfl))
      refine wpQuiet_nil ?_
      intro w4 hs4
      rw [hcut]
      have HX4 := Lib.hid (HX3.out.below hs4.1)
      have HK4 := Lib.hid hs4.2
      have HO4 := Lib.hid (HO3.out.below hs4.1)
      have HB4 := Lib.hid (HB3.out.trans (hs4.1.mono HB3.out.size))
      have HAP := Lib.hid (show ∀ g, (Value.slice ao (rowN (fromF sig i fr) k).length cp).ownBlock = some g → wr.heap.size ≠ g from fun g hg e => by
        have h1 := (World.ownsRow.lt HO.out g hg).2; omega)
      clear hs4 HX3 HK3 HO3 HB3 hcut hsl HO
      have HPT := Lib.hid (show byteNs ((sig.drop (k * 16)).take (List.replicate 16 0).length) ++ (List.replicate 16 0).drop (sig.drop (k * 16)).length = byteNs (part sig k) by
        have e1 : (List.replicate 16 0).drop (sig.drop (k * 16)).length = ([] : List Nat) := List.drop_of_length_le (by rw [List.length_replicate, List.length_drop, HS.out]; omega)
        rw [e1, List.append_nil, part, Nat.mul_comm 16 k]; rfl)
      have HPL := Lib.hid (partN_len HS.out hlk)
      have HPN := Lib.hid (byteNs_part_lt sig k)
      have HFL := Lib.hid (fromF_len HS.out i fr hlk)
      have HRL := Lib.hid (rowN_len' (k := k) (fun j hj => fromF_len HS.out i fr (j := j) (by omega)))
      have HRN := Lib.hid (show rowN (fromF sig i fr) (k + 1) = rowN (fromF sig i fr) k ++ fromF sig i fr k from rfl)
      generalize fromF sig i fr k = x at *
      generalize rowN (fromF sig i fr) k = R at *
      obtain ⟨s', hs'⟩ : ∃ s', s' = sig.drop (k * 16) := ⟨_, rfl⟩
      rw [← hs'] at HPT ⊢
      clear hs'
      go_wp2_with (refine wpList_copy_bytes rfl _ _ 44 9 rfl 5 Tryd.underlying44 (by kernel_rfl) wr.heap.size 16 16 s' (List.replicate 16 0) 31 rfl rfl rfl HX4.out ?_)
      intro w5 hc hb
      have HX5 := Lib.hid (show Blk wr.heap.size 31 .u8 (byteNs (part sig k)) w5 by
        have h : Blk wr.heap.size 31 .u8 (byteNs (s'.take (List.replicate 16 0).length) ++ (List.replicate 16 0).drop s'.length) w5 := hc.out
        rw [HPT.out] at h
        exact h)
      have HO5 := Lib.hid (HO4.out.but hb.out HAP.out)
      have HK5 := Lib.hid (HK4.out.but hb.out (by have := HK1.out.lt; have := HW.out; omega))
      have HB5 := Lib.hid (show Below w1.heap.size w1 w5 from But.toBelow HB4.out hb.out HW.out HB4.out.size)
      clear hc hb HX4 HO4 HK4 HB4 HPT
      generalize byteNs (part sig k) = P at *
      have HIP := Lib.hid (show (Tryd.prog.info? 31).map (·.size) = some P.length by rw [HPL.out]; exact Tryd.infoE)
      go_wp2_with (refine wpList_load_nums rfl 31 _ rfl wr.heap.size .u8 _ 31 _ rfl HX5.out Tryd.underlying31 rfl HIP.out ?_)
      refine (dev_walk P i k y 15 _ HPL.out HPN.out HI0.out HI1.out (by omega) (by omega) (by omega) (by omega) (by omega) (by omega) HK5.out).mono ?_
      rintro e w6 ⟨rfl, hb6⟩
      rw [← HF.out]
      have HX6 := Lib.hid (HX5.out.below hb6)
      have HO6 := Lib.hid (HO5.out.below hb6)
      have HB6 := Lib.hid (HB5.out.trans (hb6.mono HB5.out.size))
      clear hb6 HX5 HO5 HK5 HB5 HF
      have HI := Lib.hid (show (Tryd.prog.info? 31).map (·.size) = some x.length by rw [HFL.out]; exact Tryd.infoE)
      have HL2 := Lib.hid (show P.length = x.length by rw [HFL.out, HPL.out])
      go_wp2_with (refine wpList_store_nums rfl 31 _ _ rfl rfl wr.heap.size .u8 _ x 31 rfl rfl HX6.out HI.out HL2.out ?_)
      intro w7 hc hb
      have HX7 := Lib.hid (show Blk wr.heap.size 31 .u8 x w7 from hc.out)
      have HB7 := Lib.hid (show Below w1.heap.size w1 w7 from But.toBelow HB6.out hb.out HW.out HB6.out.size)
      have HO7 := Lib.hid (HO6.out.but hb.out HAP.out)
      have HLA := Lib.hid (show R.length + x.length ≤ maxLen by rw [HRL.out, HFL.out]; unfold maxLen; omega)
      have HLB := Lib.hid (show (R.length + x.length) * 1 ≤ 140737488355328 by rw [HRL.out, HFL.out]; omega)
      clear hc hb HX6 HB6 HO6 HI HL2
      go_wp2_with (refine wpList_append_nums rfl (.tmp 29) (.tmp 30) 44 5 rfl w1.heap.size .u8 1 Tryd.underlying44 Tryd.infoByte4 (.slice ao R.length cp) R x ⟨wr.heap.size, 0, none⟩ 16 16 HFL.out.symm rfl HO7.out rfl (blk_news HX7.out) HLA.out HLB.out HB7.out.size ?_)
      intro v8 w8 ho8 hb8
      have HB8 := Lib.hid (show Below w1.heap.size w1 w8 from HB7.out.trans hb8.out)
      clear hb8
      go_wp2_with fail
      exact ⟨⟨k + 1, by omega, by go_num, by rw [HRN.out]; exact ho8.out, HB8.out⟩, by simp [intOf]; omega⟩
    · obtain rfl : k = 35 := by omega
      have hconv := conv_row (rowN (fromF sig i fr) 35) rfl (by rw [rowN_len' (k := 35) (fun j hj => fromF_len HS.out i fr hj)]; decide) (rowN_lt (fromF_lt sig i fr) 35) HO.out
      rw [txt_rowN] at hconv
      have HBr := Lib.hid (HB1.out.trans (HB.out.mono HB1.out.size))
      clear HO HB HKr
      go_wp2_with fail
      go_ret
      exact ⟨rfl, HBr.out⟩
end Go.Proofs.YtcjjhddppcmgoaaDoor

/-! The developers' Leaf and Sign. -/
namespace Go.Proofs.YtcjjhddppcmgoaaDoor
open Go.RowKit Go.BigFrame

/-- The steps while they are set: k of them. -/
def lastL (k : Nat) : List Nat := List.replicate k 15 ++ List.replicate (35 - k) 0
theorem lastL_len {k : Nat} (hk : k ≤ 35) : (lastL k).length = 35 := by simp [lastL]; omega
theorem lastL_set {k : Nat} (hk : k < 35) : (lastL k).set k 15 = lastL (k + 1) := by
  unfold lastL
  rw [List.set_append_right _ _ (by simp), List.length_replicate, Nat.sub_self, show 35 - k = (35 - (k + 1)) + 1 by omega, List.replicate_succ, List.set_cons_zero, List.replicate_succ', List.append_assoc]
  rfl
theorem last_row (seed : List UInt8) (i : Int) : rowE (toF seed i (lastL 35)) 35 = rowE (endF seed i) 35 := by
  refine rowE_congr fun j hj => ?_
  have h : ∀ j : Fin 35, (lastL 35).getD j.val 0 = 15 := by decide
  have e : (lastL 35).getD j 0 = 15 := h ⟨j, hj⟩
  rw [toF, e, endF]
  rfl

set_option maxHeartbeats 4000000 in
set_option maxRecDepth 100000 in
theorem dev_leaf (seed : List UInt8) (i : Int) (w : World) (hs : seed.length ≤ 4000) (hi0 : -9223372036854775808 ≤ i) (hi : i ≤ 9223372036854775807) (hk : KAt w) :
    Calls Tryd.prog 23 #[.string ⟨seed.toArray⟩, .int .i64 i] w fun e w' => e = .returned (.agg (nums .u8 (leafN seed i)).toArray) ∧ Below w.heap.size w w' := by
  have HS := Lib.hid hs
  have HK := Lib.hid hk
  have HI0 := Lib.hid hi0
  have HI1 := Lib.hid hi
  clear hs hk hi0 hi
  go_enter Tryd.func23, Tryd.ntmps23
  go_upto_region 2 with (fail)
  change Code.wp _ _ _ _ ((w.alloc (.cells (nums .u8 (List.replicate 16 0)).toArray 31)).alloc (.cells (nums .i64 (List.replicate 35 0)).toArray 73))
  obtain ⟨w1, hw1⟩ : ∃ x', x' = (w.alloc (.cells (nums .u8 (List.replicate 16 0)).toArray 31)).alloc (.cells (nums .i64 (List.replicate 35 0)).toArray 73) := ⟨_, rfl⟩
  rw [← hw1]
  have h3 : Cells w.heap.size 31 (nums .u8 (List.replicate 16 0)).toArray w1 ∧ Blk (w.heap.size + 1) 73 .i64 (List.replicate 35 0) w1 ∧ Below w.heap.size w w1 := by rw [hw1]; exact cells_nums_new w _ _ _ _ _
  obtain ⟨hx1, hr1, hb1⟩ := h3
  have HX1 := Lib.hid (show Blk w.heap.size 31 .u8 (List.replicate 16 0) w1 from hx1)
  have HD1 := Lib.hid hr1
  have HB1 := Lib.hid hb1
  have HK1 := Lib.hid (HK.out.below hb1)
  have HKL := Lib.hid (HK.out.lt)
  obtain ⟨gd, hgd⟩ : ∃ g, g = w.heap.size + 1 := ⟨_, rfl⟩
  rw [← hgd] at HD1 ⊢
  have HGD := Lib.hid hgd
  clear hx1 hr1 hb1 hw1 HK hgd
  go_wp2_with fail
  go_loopw [7] (fun n wq => ∃ k : Nat, k ≤ 35 ∧ n = .int .i64 k ∧ Blk gd 73 .i64 (lastL k) wq ∧ But gd w1 wq) (fun n _ => 35 - (intOf n).toNat)
  case atStart => exact ⟨0, by omega, rfl, HD1.out, But.refl _ _⟩
  case round =>
    clear HD1
    obtain ⟨k, hk, rfl, hc, hb⟩ := hrel
    have HC := Lib.hid hc
    have HB := Lib.hid hb
    clear hc hb
    by_cases hlk : k < 35
    · have HLL := Lib.hid (lastL_len hk)
      have HLS := Lib.hid (lastL_set hlk)
      generalize lastL k = L at *
      have c1 := HC.out.cell k (by rw [HLL.out]; omega)
      have f1 := HC.out.frozen k
      have HS3 := Lib.hid (HC.out.set k 15)
      rw [HLS.out] at HS3
      generalize L.getD k 0 = z at c1
      clear HLS
      go_wp2_with fail
      exact ⟨⟨k + 1, by omega, by go_num, HS3.out, HB.out.setCell _ _⟩, by simp [intOf]; omega⟩
    · obtain rfl : k = 35 := by omega
      have HXr := Lib.hid (HX1.out.but HB.out (by have := HGD.out; omega))
      have HKr := Lib.hid (HK1.out.but HB.out (by have := HGD.out; have := HKL.out; omega))
      have HBr := Lib.hid (show Below w.heap.size w wr from But.toBelow HB1.out HB.out (by have := HGD.out; omega) HB1.out.size)
      have HLL := Lib.hid (lastL_len (Nat.le_refl 35))
      have LLT := Lib.hid (show ∀ d ∈ lastL 35, d < 16 by decide)
      have HLR := Lib.hid (last_row seed i)
      clear HX1 HB1 HK1 HB
      generalize lastL 35 = L at *
      have HIL := Lib.hid (show (Tryd.prog.info? 73).map (·.size) = some L.length by rw [HLL.out]; exact Tryd.infoDg)
      go_wp2_with (refine wpList_load_nums rfl 73 _ rfl gd .i64 _ 73 _ rfl HC.out Tryd.underlying73 rfl HIL.out ?_)
      refine (dev_reach seed i L _ HS.out HI0.out HI1.out HLL.out LLT.out HKr.out).mono ?_
      rintro e w2 ⟨rfl, hb2⟩
      rw [HLR.out]
      have HX2 := Lib.hid (HXr.out.below hb2)
      have HB2 := Lib.hid (HBr.out.trans (hb2.mono HBr.out.size))
      have HK2 := Lib.hid (HKr.out.below hb2)
      have HEL := Lib.hid (show (rowE (endF seed i) 35).length ≤ 4000 by rw [rowE_len (endF_len seed i)]; decide)
      have HLF := Lib.hid (show keyN (rowE (endF seed i) 35) i = leafN seed i from rfl)
      generalize rowE (endF seed i) 35 = E at *
      clear hb2 HXr HBr HKr HC HIL HLL LLT HLR
      go_wp2_with fail
      refine (dev_key E i _ HEL.out HI0.out HI1.out HK2.out).mono ?_
      rintro e w4 ⟨rfl, hb4⟩
      rw [HLF.out]
      have HR4 := Lib.hid (HX2.out.below hb4)
      have HB4 := Lib.hid (HB2.out.trans (hb4.mono HB2.out.size))
      have HNL := Lib.hid (show (leafN seed i).length = 16 from keyN_len _ _)
      clear hb4 HX2 HB2 HK2 HEL HLF
      obtain ⟨N, hN⟩ : ∃ N, leafN seed i = N := ⟨_, rfl⟩
      rw [hN] at HNL ⊢
      have HN := Lib.hid hN
      clear hN
      have HI := Lib.hid (show (Tryd.prog.info? 31).map (·.size) = some N.length by rw [HNL.out]; exact Tryd.infoE)
      have HL2 := Lib.hid (show (List.replicate 16 0).length = N.length by rw [HNL.out]; rfl)
      go_wp2_with (refine wpList_store_nums rfl 31 _ _ rfl rfl w.heap.size .u8 _ N 31 rfl rfl HR4.out HI.out HL2.out ?_)
      intro w7 hc' hb'
      have HC7 := Lib.hid (show Blk w.heap.size 31 .u8 N w7 from hc'.out)
      have HB7 := Lib.hid (show Below w.heap.size w w7 from But.toBelow HB4.out hb'.out (by omega) HB4.out.size)
      clear hc' hb'
      go_wp2_with fail
      exact bodyPost_ret (results_nums rfl _ _ w.heap.size .u8 _ 31 _ rfl HC7.out Tryd.underlying31 rfl HI.out) rfl ⟨by rw [HN.out], HB7.out⟩

set_option maxHeartbeats 4000000 in
set_option maxRecDepth 100000 in
theorem dev_sign (seed : List UInt8) (i : Int) (d : List Nat) (w : World) (hs : seed.length ≤ 4000) (hi0 : -9223372036854775808 ≤ i) (hi : i ≤ 9223372036854775807) (hd : d.length = 16) (ld : ∀ y ∈ d, y < 256) (hk : KAt w) :
    Calls Tryd.prog 27 #[.string ⟨seed.toArray⟩, .int .i64 i, .agg (nums .u8 d).toArray] w fun e w' => e = .returned (.string ⟨(signN seed i d).toArray⟩) ∧ Below w.heap.size w w' := by
  have HS := Lib.hid hs
  have HK := Lib.hid hk
  have HD := Lib.hid hd
  have LD := Lib.hid ld
  have HI0 := Lib.hid hi0
  have HI1 := Lib.hid hi
  clear hs hk hi0 hi hd ld
  go_enter Tryd.func27, Tryd.ntmps27
  go_upto_region 1 with (fail)
  obtain ⟨w1, hw1⟩ : ∃ x', x' = w.alloc (.cells (nums .u8 d).toArray 31) := ⟨_, rfl⟩
  rw [← hw1]
  have hb1 : Below w.heap.size w w1 := by rw [hw1]; exact (Below.refl _ _).alloc (Nat.le_refl _) _
  have HD1 := Lib.hid (show Blk w.heap.size 31 .u8 d w1 by rw [hw1]; exact heap_alloc_new w _)
  have HB1 := Lib.hid hb1
  have HK1 := Lib.hid (HK.out.below hb1)
  have HI := Lib.hid (show (Tryd.prog.info? 31).map (·.size) = some d.length by rw [HD.out]; exact Tryd.infoE)
  clear hb1 hw1 HK
  go_wp2_with (refine wpList_load_nums rfl 31 _ rfl w.heap.size .u8 _ 31 _ rfl HD1.out Tryd.underlying31 rfl HI.out ?_)
  refine (dev_digits d _ HD.out LD.out).mono ?_
  rintro e w2 ⟨rfl, hb2⟩
  have HB2 := Lib.hid (HB1.out.trans (hb2.mono HB1.out.size))
  have HK2 := Lib.hid (HK1.out.below hb2)
  clear hb2 HB1 HK1 HD1
  go_wp2_with fail
  refine (dev_reach seed i (digN d) _ HS.out HI0.out HI1.out (digN_len HD.out) (digN_lt HD.out LD.out) HK2.out).mono ?_
  rintro e w3 ⟨rfl, hb3⟩
  rw [show rowE (toF seed i (digN d)) 35 = signN seed i d from rfl]
  have HB3 := Lib.hid (HB2.out.trans (hb3.mono HB2.out.size))
  clear hb3
  go_wp2_with fail
  go_ret
  exact ⟨rfl, HB3.out⟩
end Go.Proofs.YtcjjhddppcmgoaaDoor

/-! The developers' Meet. -/
namespace Go.Proofs.YtcjjhddppcmgoaaDoor
open Go.RowKit Go.BigFrame

theorem meetN_of (sig : List UInt8) (i : Int) (d : List Nat) : keyN (rowE (fromF sig i (digN d)) 35) i = meetN sig i d := rfl
theorem rowE_len' {f : Nat → List Nat} {k : Nat} (hf : ∀ j, j < k → (f j).length = 16) : (rowE f k).length = 16 * k := by
  rw [← txt_rowN, txt_len, rowN_len' hf]

set_option maxHeartbeats 4000000 in
set_option maxRecDepth 100000 in
theorem dev_meet (sig : List UInt8) (i : Int) (d : List Nat) (w : World) (hs : sig.length = 560) (hi0 : -9223372036854775808 ≤ i) (hi : i ≤ 9223372036854775807) (hd : d.length = 16) (ld : ∀ y ∈ d, y < 256) (hk : KAt w) :
    Calls Tryd.prog 39 #[.string ⟨sig.toArray⟩, .int .i64 i, .agg (nums .u8 d).toArray] w fun e w' => e = .returned (.tuple #[.agg (nums .u8 (meetN sig i d)).toArray, .int .i64 0]) ∧ Below w.heap.size w w' := by
  have HS := Lib.hid hs
  have HK := Lib.hid hk
  have HD := Lib.hid hd
  have LD := Lib.hid ld
  have HI0 := Lib.hid hi0
  have HI1 := Lib.hid hi
  clear hs hk hi0 hi hd ld
  go_enter Tryd.func39, Tryd.ntmps39
  go_upto_region 1 with (fail)
  change Code.wp _ _ _ _ ((w.alloc (.cells (nums .u8 d).toArray 31)).alloc (.cells (nums .u8 (List.replicate 16 0)).toArray 31))
  obtain ⟨w1, hw1⟩ : ∃ x', x' = (w.alloc (.cells (nums .u8 d).toArray 31)).alloc (.cells (nums .u8 (List.replicate 16 0)).toArray 31) := ⟨_, rfl⟩
  rw [← hw1]
  have h3 : Blk w.heap.size 31 .u8 d w1 ∧ Blk (w.heap.size + 1) 31 .u8 (List.replicate 16 0) w1 ∧ Below w.heap.size w w1 := by rw [hw1]; exact two_new w _ _ _ _
  obtain ⟨hx1, hr1, hb1⟩ := h3
  have HD1 := Lib.hid hx1
  have HR1 := Lib.hid hr1
  have HB1 := Lib.hid hb1
  have HK1 := Lib.hid (HK.out.below hb1)
  have HI := Lib.hid (show (Tryd.prog.info? 31).map (·.size) = some d.length by rw [HD.out]; exact Tryd.infoE)
  obtain ⟨gr, hgr⟩ : ∃ g, g = w.heap.size + 1 := ⟨_, rfl⟩
  rw [← hgr] at HR1 ⊢
  have HGR := Lib.hid hgr
  clear hx1 hr1 hb1 hw1 HK hgr
  have hlen := HS.out
  go_wp2_with (refine wpList_load_nums rfl 31 _ rfl w.heap.size .u8 _ 31 _ rfl HD1.out Tryd.underlying31 rfl HI.out ?_)
  refine (dev_digits d _ HD.out LD.out).mono ?_
  rintro e w2 ⟨rfl, hb2⟩
  have HB2 := Lib.hid (HB1.out.trans (hb2.mono HB1.out.size))
  have HK2 := Lib.hid (HK1.out.below hb2)
  have HR2 := Lib.hid (HR1.out.below hb2)
  clear hb2 HB1 HK1 HD1 HR1
  go_wp2_with fail
  refine (dev_ends sig i (digN d) _ HS.out HI0.out HI1.out (digN_len HD.out) (digN_lt HD.out LD.out) HK2.out).mono ?_
  rintro e w3 ⟨rfl, hb3⟩
  have HB3 := Lib.hid (HB2.out.trans (hb3.mono HB2.out.size))
  have HK3 := Lib.hid (HK2.out.below hb3)
  have HR3 := Lib.hid (HR2.out.below hb3)
  have HEL := Lib.hid (show (rowE (fromF sig i (digN d)) 35).length ≤ 4000 by rw [rowE_len' (k := 35) fun j hj => fromF_len HS.out i _ hj]; decide)
  have HMN := Lib.hid (meetN_of sig i d)
  clear hb3 HB2 HK2 HR2 hlen
  generalize rowE (fromF sig i (digN d)) 35 = E at *
  go_wp2_with fail
  refine (dev_key E i _ HEL.out HI0.out HI1.out HK3.out).mono ?_
  rintro e w4 ⟨rfl, hb4⟩
  have HR4 := Lib.hid (HR3.out.below hb4)
  have HB4 := Lib.hid (HB3.out.trans (hb4.mono HB3.out.size))
  have HNL := Lib.hid (show (keyN E i).length = 16 from keyN_len _ _)
  clear hb4 HR3 HB3 HK3 HEL
  generalize keyN E i = N at *
  have HI := Lib.hid (show (Tryd.prog.info? 31).map (·.size) = some N.length by rw [HNL.out]; exact Tryd.infoE)
  have HL2 := Lib.hid (show (List.replicate 16 0).length = N.length by rw [HNL.out]; rfl)
  go_wp2_with (refine wpList_store_nums rfl 31 _ _ rfl rfl gr .u8 _ N 31 rfl rfl HR4.out HI.out HL2.out ?_)
  intro w7 hc' hb'
  have HC7 := Lib.hid (show Blk gr 31 .u8 N w7 from hc'.out)
  have HB7 := Lib.hid (show Below w.heap.size w w7 from But.toBelow HB4.out hb'.out (by have := HGR.out; omega) HB4.out.size)
  clear hc' hb'
  go_wp2_with fail
  exact bodyPost_ret (results_nums_tmp rfl _ _ gr .u8 _ 31 _ _ rfl rfl HC7.out Tryd.underlying31 rfl HI.out) rfl ⟨by rw [← HMN.out]; rfl, HB7.out⟩

set_option maxHeartbeats 4000000 in
set_option maxRecDepth 100000 in
theorem dev_meet_not (sig : List UInt8) (i : Int) (d : List Nat) (w : World) (hs : sig.length ≠ 560) :
    Calls Tryd.prog 39 #[.string ⟨sig.toArray⟩, .int .i64 i, .agg (nums .u8 d).toArray] w fun e w' => e = .returned (.tuple #[.agg (nums .u8 (List.replicate 16 0)).toArray, .int .i64 4]) ∧ Below w.heap.size w w' := by
  have hlen : ((sig.length : Int) == 560) = false := by simp; omega
  have hle : (sig.length : Int) ≠ 560 := by omega
  go_enter Tryd.func39, Tryd.ntmps39
  go_upto_region 1 with (fail)
  change Code.wp _ _ _ _ ((w.alloc (.cells (nums .u8 d).toArray 31)).alloc (.cells (nums .u8 (List.replicate 16 0)).toArray 31))
  obtain ⟨w1, hw1⟩ : ∃ x', x' = (w.alloc (.cells (nums .u8 d).toArray 31)).alloc (.cells (nums .u8 (List.replicate 16 0)).toArray 31) := ⟨_, rfl⟩
  rw [← hw1]
  have h3 : Blk w.heap.size 31 .u8 d w1 ∧ Blk (w.heap.size + 1) 31 .u8 (List.replicate 16 0) w1 ∧ Below w.heap.size w w1 := by rw [hw1]; exact two_new w _ _ _ _
  obtain ⟨hx1, hr1, hb1⟩ := h3
  have HR1 := Lib.hid hr1
  have HB1 := Lib.hid hb1
  obtain ⟨gr, hgr⟩ : ∃ g, g = w.heap.size + 1 := ⟨_, rfl⟩
  rw [← hgr] at HR1 ⊢
  have HGR := Lib.hid hgr
  clear hx1 hr1 hb1 hw1 hgr
  go_wp2_with (refine wpList_store_nums rfl 31 _ _ rfl rfl gr .u8 _ (List.replicate 16 0) 31 rfl rfl HR1.out Tryd.infoE rfl ?_)
  intro w7 hc' hb'
  have HC7 := Lib.hid (show Blk gr 31 .u8 (List.replicate 16 0) w7 from hc'.out)
  have HB7 := Lib.hid (show Below w.heap.size w w7 from But.toBelow HB1.out hb'.out (by have := HGR.out; omega) HB1.out.size)
  clear hc' hb'
  go_wp2_with fail
  exact bodyPost_ret (results_nums_tmp rfl _ _ gr .u8 _ 31 _ _ rfl rfl HC7.out Tryd.underlying31 rfl Tryd.infoE) rfl ⟨rfl, HB7.out⟩
end Go.Proofs.YtcjjhddppcmgoaaDoor
