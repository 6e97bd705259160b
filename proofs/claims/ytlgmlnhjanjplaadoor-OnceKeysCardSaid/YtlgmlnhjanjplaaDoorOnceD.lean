/-
  The developers' reach, ends, Leaf, Sign, Meet.
-/
import Derived.Test.YtlgmlnhjanjplaaDoorOnceS
namespace Go.Proofs.YtlgmlnhjanjplaaDoor
open Go.RowKit Go.BigFrame

/-- The numbers of k elements, one behind the other. -/
def rowN (f : Nat → List Nat) : Nat → List Nat
  | 0 => []
  | k + 1 => rowN f k ++ f k
theorem rowN_len {f : Nat → List Nat} (hf : ∀ j, (f j).length = 16) (k : Nat) : (rowN f k).length = 16 * k := by
  induction k with
  | zero => rfl
  | succ k ih => rw [rowN, List.length_append, ih, hf]; omega
theorem rowN_lt {f : Nat → List Nat} (hf : ∀ j, ∀ y ∈ f j, y < 256) (k : Nat) : ∀ y ∈ rowN f k, y < 256 := by
  induction k with
  | zero => intro y hy; cases hy
  | succ k ih =>
    intro y hy
    rw [rowN, List.mem_append] at hy
    exact hy.elim (ih y) (hf k y)
theorem txt_rowN (f : Nat → List Nat) (k : Nat) : txt (rowN f k) = rowE f k := by
  induction k with
  | zero => rfl
  | succ k ih => rw [rowN, rowE, txt_append, ih]
theorem blk_news {g : Nat} {t : TypeId} {k : IntKind} {l : List Nat} {w : World} (h : Blk g t k l w) : ∀ j u, (nums k l)[j]? = some u → w.cell? ((⟨g, 0, none⟩ : Addr).add j) = some u := by
  intro j u hj
  rw [Addr.add_lit, Nat.zero_add, Lib.cell_of_heap h j, List.getElem?_toArray]
  exact hj
/-- A row of bytes of the call's own is turned into a string. -/
theorem conv_row {B n : Nat} {cp : Nat} {ao : Option Addr} {w : World} (l : List Nat) (hn : n = l.length) (h0 : 0 < l.length) (hlt : ∀ x ∈ l, x < 256) (h : OwnN B 5 .u8 (.slice ao n cp) l w) :
    (convert 51 9 (.slice ao n cp)).run Tryd.prog w = .ok (.string ⟨(txt l).toArray⟩) w := by
  obtain ⟨g, c2, hv, _, _⟩ := h.formB h0
  have hlen : l.length = (txt l).length := (txt_len _).symm
  obtain rfl : ao = some ⟨g, 0, none⟩ := by injection hv
  have hc := World.ownsRow.cells h (g := g) rfl
  rw [hn, hlen]
  refine run_convert_bytes_back _ _ _ 5 ⟨g, 0, none⟩ _ (txt l) Tryd.underlying51 Tryd.underlying5 Tryd.underlying9 ?_
  intro j hj
  refine hc j _ ?_
  have e : nums .u8 l = (txt l).map fun b => Value.int .u8 (b.toNat : Int) := by
    rw [← byteNs_nums, byteNs_txt hlt]
  rw [e, List.getElem?_map, List.getElem?_eq_getElem hj]
  rfl
theorem Tryd.infoByte4 : (Tryd.prog.info? 5).map (fun i => (i.zero, i.size, i.bytes)) = some (some (.int .u8 0), 1, 1) := by kernel_rfl

def toF (seed : List UInt8) (i : Int) (to : List Nat) (j : Nat) : List Nat := walkI (secN seed i j) (placeB i j) 0 (to.getD j 0 : Nat)
theorem toF_len (seed : List UInt8) (i : Int) (to : List Nat) (j : Nat) : (toF seed i to j).length = 16 := walkI_len (secN_len _ _ _) _ _ _
theorem toF_lt (seed : List UInt8) (i : Int) (to : List Nat) (j : Nat) : ∀ y ∈ toF seed i to j, y < 256 := walkI_lt (secN_lt _ _ _) _ _ _

set_option maxHeartbeats 4000000 in
set_option maxRecDepth 100000 in
theorem dev_reach (seed : List UInt8) (i : Int) (to : List Nat) (w : World) (hs : seed.length ≤ 4000) (hi0 : -9223372036854775808 ≤ i) (hi : i ≤ 9223372036854775807) (ht : to.length = 35) (lt : ∀ d ∈ to, d < 16) (hk : KAt w) :
    Calls Tryd.prog 26 #[.string ⟨seed.toArray⟩, .int .i64 i, .agg (nums .i64 to).toArray] w fun e w' => e = .returned (.string ⟨(rowE (toF seed i to) 35).toArray⟩) ∧ Below w.heap.size w w' := by
  obtain ⟨i0, hi2, hz0, hz1, hz2⟩ := info_parts Tryd.infoByte4
  have HS := Lib.hid hs
  have HK := Lib.hid hk
  have HT := Lib.hid ht
  have LT := Lib.hid lt
  have HI0 := Lib.hid hi0
  have HI1 := Lib.hid hi
  have HY := Lib.hid hi2
  have HY0 := Lib.hid hz0
  have HY1 := Lib.hid hz1
  have HY2 := Lib.hid hz2
  clear hs hk ht lt hi0 hi hi2 hz0 hz1 hz2
  go_enter Tryd.func26, Tryd.ntmps26
  go_upto_region 1 with (fail)
  obtain ⟨w1, hw1⟩ : ∃ x', x' = w.alloc (.cells (nums .i64 to).toArray 39) := ⟨_, rfl⟩
  rw [← hw1]
  have hb1 : Below w.heap.size w w1 := by rw [hw1]; exact (Below.refl _ _).alloc (Nat.le_refl _) _
  have HT1 := Lib.hid (show Blk w.heap.size 39 .i64 to w1 by rw [hw1]; exact heap_alloc_new w _)
  have HB1 := Lib.hid hb1
  have HK1 := Lib.hid (HK.out.below hb1)
  clear hb1 hw1 HK
  go_wp2_with (at_make; refine wpList_make_own _ rfl _ _ 51 rfl w1.heap.size 5 i0 (.int .u8 0) 1 Tryd.underlying51 HY.out HY0.out HY1.out .i64 .i64 560 560 rfl rfl rfl (by rw [HY2.out]; decide) (by unfold maxLen; omega) (Nat.le_refl _) ?_)
  intro w2 ho hgrow
  have hb2 : Below w1.heap.size w1 w2 := (Below.refl w1.heap.size w1).grown hgrow (Nat.le_refl _) (by intro g hg; cases hg)
  have HO := Lib.hid (show OwnN w1.heap.size 5 .u8 (.slice (some ⟨w1.heap.size, 0, none⟩) 0 560) [] w2 from ho)
  have HB2 := Lib.hid hb2
  have HT2 := Lib.hid (HT1.out.below hb2)
  have HIT := Lib.hid (show (Tryd.prog.info? 39).map (·.size) = some to.length by rw [HT.out]; exact Tryd.infoDg)
  clear ho hgrow hb2
  go_wp2_with (refine wpList_load_nums rfl 39 _ rfl w.heap.size .i64 _ 39 _ rfl HT2.out Tryd.underlying39 rfl HIT.out ?_)
  go_loopw [7, 14] (fun v n wq => ∃ k : Nat, k ≤ 35 ∧ n = .int .i64 k ∧ OwnN w1.heap.size 5 .u8 v (rowN (toF seed i to) k) wq ∧ Below w1.heap.size w1 wq) (fun _ n _ => 35 - (intOf n).toNat)
  case atStart => exact ⟨0, by omega, rfl, HO.out, HB2.out⟩
  case round =>
    clear HO HB2 HT2
    obtain ⟨k, hk, rfl, ho, hb⟩ := hrel
    obtain ⟨ao, cp, rfl⟩ := ho.form
    have HO := Lib.hid ho
    have HB := Lib.hid hb
    have HW := Lib.hid hb.size
    have HKr := Lib.hid (HK1.out.below hb)
    clear ho hb
    by_cases hlk : k < 35
    · have hix := fun w => run_index_nums (P := Tryd.prog) 39 3 35 .i64 to k w Tryd.underlying39 HT.out Tryd.sizeOf3 Tryd.isAgg3 hlk
      have hx := getD_lt LT.out (by decide) k
      have HF := Lib.hid (show toF seed i to k = walkI (secN seed i k) (placeB i k) 0 (to.getD k 0 : Nat) from rfl)
      generalize to.getD k 0 = y at hix hx HF
      go_upto_region 6 with (fail)
      obtain ⟨w3, hw3⟩ : ∃ x', x' = wr.alloc (.cells #[.int .i64 i, .int .i64 (k : Int)] 27) := ⟨_, rfl⟩
      rw [← hw3]
      have hb3 : Below wr.heap.size wr w3 := by rw [hw3]; exact (Below.refl _ _).alloc (Nat.le_refl _) _
      have HP3 := Lib.hid (show Cells wr.heap.size 27 #[.int .i64 i, .int .i64 (k : Int)] w3 by rw [hw3]; exact heap_alloc_new wr _)
      have HK3 := Lib.hid (HKr.out.below hb3)
      have HO3 := Lib.hid (HO.out.below hb3)
      have HB3 := Lib.hid (HB.out.trans (hb3.mono HB.out.size))
      clear hw3 hb3 HO HB HKr hix
      have HAL := Lib.hid (show ∀ w : World, (Instr.alloc 24 true (.tuple #[])).run Tryd.prog w = .ok (.pointer (some ⟨w.heap.size, 0, none⟩)) (w.alloc (.cells (nums .u8 (List.replicate 16 0)).toArray 24)) from fun w => by kernel_rfl)
      refine wp_region_free 7 (fun s V w' => SS w3 w' ∧ Val s V 0 (.string ⟨seed.toArray⟩) ∧ Val s V 1 (.agg #[.int .i64 i, .int .i64 (k : Int)]) ∧ Val s V 2 (.agg (nums .u8 (secN seed i k)).toArray) ∧ Val s V 3 (.agg #[.int .i64 i, .int .i64 (k : Int)]) ∧ Val s V 4 (.int .i64 (y : Int)) ∧ Val s V 5 (.agg (nums .u8 (toF seed i to k)).toArray) ∧ New s V w3.heap.size 6 24 .u8 (List.replicate 16 0) w') (fun | 0 => u21 | 1 => u22 | 2 => u23 | 3 => u24 | 4 => u25 | 5 => u26 | _ => u11) (by kernel_rfl) (by kernel_rfl) (by kernel_rfl) rfl ⟨SS.start HK3.out, Val.none, Val.none, Val.none, Val.none, Val.none, Val.none, New.none⟩ ?_ ?_
      · simp only [List.take_succ_cons, List.take_zero, putAll, Nat.zero_add, Nat.reduceAdd, Act.put, List.setIfInBounds_toArray, List.set_cons_zero, List.set_cons_succ]
        refine FreeSteps.cons ?_ (FreeSteps.cons ?_ (FreeSteps.cons ?_ (FreeSteps.cons ?_ (FreeSteps.cons ?_ (FreeSteps.cons ?_ (FreeSteps.cons ?_ (FreeSteps.nil)))))))
        all_goals (refine FreeStep.plain rfl ?_; rintro s V wq hr ⟨hB, h0, h1, h2, h3, h4, h5, h6⟩ K hK)
        · exact op_move (.tmp 0) rfl (.string ⟨seed.toArray⟩) rfl (hK _ _ ⟨hB, .same, h1.ne (by decide), h2.ne (by decide), h3.ne (by decide), h4.ne (by decide), h5.ne (by decide), h6.ne (by decide) (Below.refl _ _)⟩)
        · exact op_load_cells 27 (.tmp 10) rfl wr.heap.size #[.int .i64 i, .int .i64 (k : Int)] 27 _ rfl (HP3.out.below hB.1) Tryd.underlying27 rfl Tryd.infoP (hK _ _ ⟨hB, h0.ne (by decide), .same, h2.ne (by decide), h3.ne (by decide), h4.ne (by decide), h5.ne (by decide), h6.ne (by decide) (Below.refl _ _)⟩)
        · have v0 := h0 (hr { on := 0, ground := .data } (by simp) rfl)
          have v1 := h1 (hr { on := 1, ground := .data } (by simp) rfl)
          refine op_call Tryd.func9 rfl rfl rfl [.string ⟨seed.toArray⟩, .agg #[.int .i64 i, .int .i64 (k : Int)]] (cons_eq v0 (cons_eq v1 rfl)) (dev_secret seed i k wq HS.out HI0.out HI1.out (by omega) (by omega) hB.2) ?_
          rintro e w' ⟨rfl, hb⟩
          exact ⟨_, rfl, hK _ _ ⟨hB.next hb, h0.ne (by decide), h1.ne (by decide), .same, h3.ne (by decide), h4.ne (by decide), h5.ne (by decide), h6.ne (by decide) hb⟩⟩
        · exact op_load_cells 27 (.tmp 10) rfl wr.heap.size #[.int .i64 i, .int .i64 (k : Int)] 27 _ rfl (HP3.out.below hB.1) Tryd.underlying27 rfl Tryd.infoP (hK _ _ ⟨hB, h0.ne (by decide), h1.ne (by decide), h2.ne (by decide), .same, h4.ne (by decide), h5.ne (by decide), h6.ne (by decide) (Below.refl _ _)⟩)
        · exact op_move (.tmp 9) rfl (.int .i64 (y : Int)) rfl (hK _ _ ⟨hB, h0.ne (by decide), h1.ne (by decide), h2.ne (by decide), h3.ne (by decide), .same, h5.ne (by decide), h6.ne (by decide) (Below.refl _ _)⟩)
        · have v2 := h2 (hr { on := 2, ground := .data } (by simp) rfl)
          have v3 := h3 (hr { on := 3, ground := .data } (by simp) rfl)
          have v4 := h4 (hr { on := 4, ground := .data } (by simp) rfl)
          refine op_call Tryd.func18 rfl rfl rfl [.agg (nums .u8 (secN seed i k)).toArray, .agg #[.int .i64 i, .int .i64 (k : Int)], .int .i64 0, .int .i64 (y : Int)] (cons_eq v2 (cons_eq v3 (cons_eq rfl (cons_eq v4 rfl)))) (by have h := dev_walk (secN seed i k) i k 0 y wq (secN_len _ _ _) (secN_lt _ _ _) HI0.out HI1.out (by omega) (by omega) (by omega) (by omega) (by omega) (by omega) hB.2; rw [← HF.out] at h; exact h) ?_
          rintro e w' ⟨rfl, hb⟩
          exact ⟨_, rfl, hK _ _ ⟨hB.next hb, h0.ne (by decide), h1.ne (by decide), h2.ne (by decide), h3.ne (by decide), h4.ne (by decide), .same, h6.ne (by decide) hb⟩⟩
        · have hb : Below wq.heap.size wq (wq.alloc (.cells (nums .u8 (List.replicate 16 0)).toArray 24)) := (Below.refl _ _).alloc (Nat.le_refl _) _
          exact op_alloc 24 rfl _ HAL.out (hK _ _ ⟨hB.next hb, h0.ne (by decide), h1.ne (by decide), h2.ne (by decide), h3.ne (by decide), h4.ne (by decide), h5.ne (by decide), .same hB.1.size⟩)
      · rintro s V w4 hall ⟨hB, h0, h1, h2, h3, h4, h5, h6⟩
        have v5 := h5 (hall 5 (by decide))
        obtain ⟨gx, v6, hgx, hx6⟩ := h6 (hall 6 (by decide))
        simp only [List.take_succ_cons, List.take_zero, List.drop_succ_cons, List.drop_zero, putAll, Nat.zero_add, Nat.reduceAdd, v5, v6, Act.put, List.setIfInBounds_toArray, List.set_cons_zero, List.set_cons_succ]
        clear h0 h1 h2 h3 h4 h5 h6 v5 v6 hall HAL
        have HK4 := Lib.hid hB.2
        have HO4 := Lib.hid (HO3.out.below hB.1)
        have HB4 := Lib.hid (HB3.out.trans (hB.1.mono HB3.out.size))
        have HX4 := Lib.hid hx6
        have HGX := Lib.hid (show w1.heap.size ≤ gx by have := HB3.out.size; omega)
        have HAP := Lib.hid (show ∀ g, (Value.slice ao (rowN (toF seed i to) k).length cp).ownBlock = some g → gx ≠ g from fun g hg e => by have := (World.ownsRow.lt HO3.out g hg).2; omega)
        clear hB hgx hx6 HK3 HO3 HB3 HP3
        have HI := Lib.hid (show (Tryd.prog.info? 24).map (·.size) = some (toF seed i to k).length by rw [toF_len]; exact Tryd.infoE)
        have HL2 := Lib.hid (show (List.replicate 16 0).length = (toF seed i to k).length by rw [toF_len]; rfl)
        have HFL := Lib.hid (toF_len seed i to k)
        have HRL := Lib.hid (rowN_len (toF_len seed i to) k)
        have HRN := Lib.hid (show rowN (toF seed i to) (k + 1) = rowN (toF seed i to) k ++ toF seed i to k from rfl)
        generalize toF seed i to k = x at *
        generalize rowN (toF seed i to) k = R at *
        go_wp2_with (refine wpList_store_nums rfl 24 _ _ rfl rfl gx .u8 _ x 24 rfl rfl HX4.out HI.out HL2.out ?_)
        intro w5 hc' hb'
        have HX5 := Lib.hid (show Blk gx 24 .u8 x w5 from hc'.out)
        have HB5 := Lib.hid (show Below w1.heap.size w1 w5 from But.toBelow HB4.out hb'.out HGX.out HB4.out.size)
        have HO5 := Lib.hid (HO4.out.but hb'.out HAP.out)
        have HLA := Lib.hid (show R.length + x.length ≤ maxLen by rw [HRL.out, HFL.out]; unfold maxLen; omega)
        have HLB := Lib.hid (show (R.length + x.length) * 1 ≤ 140737488355328 by rw [HRL.out, HFL.out]; omega)
        clear hc' hb' HX4 HB4 HO4 HK4 HI HL2
        go_wp2_with (refine wpList_append_nums rfl (.tmp 27) (.tmp 28) 51 5 rfl w1.heap.size .u8 1 Tryd.underlying51 Tryd.infoByte4 (.slice ao R.length cp) R x ⟨gx, 0, none⟩ 16 16 HFL.out.symm rfl HO5.out rfl (blk_news HX5.out) HLA.out HLB.out HB5.out.size ?_)
        intro v6 w6 ho6 hb6
        have HB6 := Lib.hid (show Below w1.heap.size w1 w6 from HB5.out.trans hb6.out)
        clear hb6
        go_wp2_with fail
        exact ⟨⟨k + 1, by omega, by go_num, by rw [HRN.out]; exact ho6.out, HB6.out⟩, by simp [intOf]; omega⟩
    · obtain rfl : k = 35 := by omega
      have hconv := conv_row (rowN (toF seed i to) 35) rfl (by rw [rowN_len (toF_len seed i to)]; decide) (rowN_lt (toF_lt seed i to) 35) HO.out
      rw [txt_rowN] at hconv
      have HBr := Lib.hid (HB1.out.trans (HB.out.mono HB1.out.size))
      clear HO HB HKr
      go_wp2_with fail
      go_ret
      exact ⟨rfl, HBr.out⟩
end Go.Proofs.YtlgmlnhjanjplaaDoor
