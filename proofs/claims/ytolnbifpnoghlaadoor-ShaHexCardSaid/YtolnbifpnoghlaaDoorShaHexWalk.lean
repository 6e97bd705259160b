/-
  The walk of the law ShaHex.
-/
import Derived.Test.YtolnbifpnoghlaaDoorShaLaws
namespace Go.Proofs.YtolnbifpnoghlaaDoor.shaHex
open Go.RowKit Go.BigFrame

theorem hex_head {a : List Nat} (k : Nat) : (⟨(txt (hexL a)).toArray⟩ : ByteArray).extract 0 (2 * k) = ⟨(txt (hexL (a.take k))).toArray⟩ := by
  rw [extract_head, txt_take, hexL_take]
theorem hex_beq {a b : List Nat} (ha : ∀ x ∈ a, x < 256) (hb : ∀ x ∈ b, x < 256) : (txt (hexL a) == txt (hexL b)) = (a == b) := by
  rw [txt_beq (hexL_lt ha) (hexL_lt hb), Bool.eq_iff_iff, beq_iff_eq, beq_iff_eq]
  exact ⟨hexL_inj ha hb, fun h => by rw [h]⟩
/-- The first k bytes, zeros behind them. -/
def headP (l : List Nat) (k : Nat) : List Nat := l.take k ++ List.replicate (32 - k) 0
theorem headP_len {l : List Nat} {k : Nat} (hl : l.length = 32) (hk : k ≤ 32) : (headP l k).length = 32 := by
  simp [headP]
  omega
theorem headP_set {l : List Nat} {k : Nat} (hl : l.length = 32) (hk : k < 32) : (headP l k).set k (l.getD k 0) = headP l (k + 1) := by
  unfold headP
  have hk2 : (l.take k).length = k := by simp; omega
  rw [List.set_append_right _ _ (by omega), hk2, Nat.sub_self, show 32 - k = (32 - (k + 1)) + 1 by omega, List.replicate_succ, List.set_cons_zero, List.take_succ_eq_append_getElem (by omega), List.append_assoc, List.getD_eq_getElem?_getD, List.getElem?_eq_getElem (by omega)]
  rfl
theorem headP_lt {l : List Nat} (h : ∀ x ∈ l, x < 256) (k : Nat) : ∀ x ∈ headP l k, x < 256 := by
  intro x hx
  rcases List.mem_append.1 hx with h1 | h1
  · exact h x (List.mem_of_mem_take h1)
  · have := List.eq_of_mem_replicate h1
    omega
theorem headP_take {l : List Nat} (hl : l.length = 32) : (headP l 16).take 16 = l.take 16 := by
  unfold headP
  rw [List.take_append_of_le_length (by simp; omega), List.take_take]
  rfl

theorem take_getD (l : List Nat) (n k : Nat) (h : k < n) : (l.take n).getD k 0 = l.getD k 0 := by
  rw [List.getD_eq_getElem?_getD, List.getD_eq_getElem?_getD, List.getElem?_take, if_pos h]
/-- A guarded load whose guard says yes. -/
theorem wpList_load_want {P : Program} {w : World} {ops : Array Oper} {rest : List Oper} {o : Oper} {a : Act} {Q : Exit → Act → World → Prop} (hw : Region.wanted o (yielded ops a.tmps) = true) (ty : TypeId) (x : Operand) (ho : o.op = .load ty x)
    (g : Nat) (k : IntKind) (l : List Nat) (t : TypeId) (d : TypeDesc) (hx : a.eval x = .pointer (some ⟨g, 0, none⟩)) (hg : Blk g t k l w)
    (hu : P.underlying ty = some d) (hd : (match d with | .struct _ | .array _ _ => true | _ => false) = true) (hi : (P.info? ty).map (·.size) = some l.length)
    (h : wpList P ops Q rest (a.put o.dst (.agg (nums k l).toArray)) w) : wpList P ops Q (o :: rest) a w :=
  BigFrame.wpList_want hw fun _ hK => wp_load_row ty x ho g hx t _ _ d hg hu hd (by rw [nums_size]; exact hi) (hK _ _ h)

set_option maxHeartbeats 1000000 in
theorem walk (w : World) (hk : KAt w) (a : List Nat) (ha : a.length = 32) (hal : ∀ x ∈ a, x < 256) (b : List Nat) (hb : b.length = 32) (hbl : ∀ x ∈ b, x < 256) :
    Calls Tryd.prog 7 #[.agg (nums .u8 a).toArray, .agg (nums .u8 b).toArray] w fun e w' => e = .returned (.bool true) ∧ Below w.heap.size w w' := by
  have HK := Lib.hid hk
  have HA := Lib.hid ha
  have HB := Lib.hid hb
  have HAL := Lib.hid hal
  have HBL := Lib.hid hbl
  have HIA := Lib.hid (show (Tryd.prog.info? 23).map (·.size) = some a.length by rw [ha]; exact Tryd.infoA)
  have HIB := Lib.hid (show (Tryd.prog.info? 23).map (·.size) = some b.length by rw [hb]; exact Tryd.infoA)
  clear hk ha hal hb hbl
  go_enter Tryd.func7, Tryd.ntmps7
  go_upto_region 1 with (fail)
  obtain ⟨wa, hwa⟩ : ∃ x, x = (w.alloc (.cells (nums .u8 a).toArray 23)).alloc (.cells (nums .u8 b).toArray 23) := ⟨_, rfl⟩
  rw [← hwa]
  have hbb : Below w.heap.size w wa := by rw [hwa]; exact ((Below.refl _ _).alloc (Nat.le_refl _) _).alloc (by simp) _
  have HXa := Lib.hid (show Blk w.heap.size 23 .u8 a wa by rw [hwa]; exact Blk.alloc (show Blk w.heap.size 23 .u8 a (w.alloc (.cells (nums .u8 a).toArray 23)) from heap_alloc_new w _) _)
  have HXb := Lib.hid (show Blk (w.heap.size + 1) 23 .u8 b wa by
    rw [hwa]
    have h := heap_alloc_new (w.alloc (.cells (nums .u8 a).toArray 23)) (.cells (nums .u8 b).toArray 23)
    rw [World.size_alloc] at h
    exact h)
  have HKa := Lib.hid (HK.out.below hbb)
  have HBa := Lib.hid hbb
  clear hwa hbb HK
  obtain ⟨gb, hgb⟩ : ∃ x, x = w.heap.size + 1 := ⟨_, rfl⟩
  obtain ⟨ga, hga⟩ : ∃ x, x = w.heap.size := ⟨_, rfl⟩
  rw [← hgb] at HXb ⊢
  rw [← hga] at HXa ⊢
  have HGA := Lib.hid hga
  have HGB := Lib.hid hgb
  clear hga hgb
  go_wp2_with fail
  refine (alive2_any wa HKa.out).mono ?_
  rintro e w1 ⟨rfl, hb1⟩
  have HB1 := Lib.hid (HBa.out.trans (hb1.mono HBa.out.size))
  have HK1 := Lib.hid (HKa.out.below hb1)
  have HX1 := Lib.hid (HXa.out.below hb1)
  have HY1 := Lib.hid (HXb.out.below hb1)
  clear hb1 HBa HKa HXa HXb
  go_wp2_with fail
  refine wp_region_class (fun w' => SS w1 w') (by kernel_rfl) (by kernel_rfl) (SS.start HK1.out) ?_
  repeat (first
    | (refine wpQuiet_want (by rfl) (fun K hK => ?_); refine quiet_load_nums 23 _ rfl ga .u8 a 23 _ rfl (fun w' h => HX1.out.below h.1) Tryd.underlying23 rfl HIA.out ?_; refine hK _ ?_; clear hK K; simp only [Act.put, List.setIfInBounds_toArray, List.set_cons_zero, List.set_cons_succ])
    | (refine wpQuiet_want (by rfl) (fun K hK => ?_); refine quiet_load_nums 23 _ rfl gb .u8 b 23 _ rfl (fun w' h => HY1.out.below h.1) Tryd.underlying23 rfl HIB.out ?_; refine hK _ ?_; clear hK K; simp only [Act.put, List.setIfInBounds_toArray, List.set_cons_zero, List.set_cons_succ])
    | go_big_quiet_step ((intro hs; first | rfl | (go_at_call_of 18 (Value.agg (nums .u8 a).toArray); exact (dev_hex a _ HA.out HAL.out).mono fun e w' h => ⟨h.1, hs.next h.2⟩) | (go_at_call_of 18 (Value.agg (nums .u8 b).toArray); exact (dev_hex b _ HB.out HBL.out).mono fun e w' h => ⟨h.1, hs.next h.2⟩))))
  refine wpQuiet_nil ?_
  intro w2 hs'
  have HB2 := Lib.hid (HB1.out.trans (hs'.1.mono HB1.out.size))
  have HK2 := Lib.hid hs'.2
  have HX2 := Lib.hid (HX1.out.below hs'.1)
  have HY2 := Lib.hid (HY1.out.below hs'.1)
  clear hs' HB1 HK1 HX1 HY1
  have hla : (txt (hexL a)).length = 64 := by rw [txt_len, hexL_len, HA.out]
  have hlb : (txt (hexL b)).length = 64 := by rw [txt_len, hexL_len, HB.out]
  have f1 := hex_beq HAL.out HBL.out
  have e1 := fun w => equal_nums (P := Tryd.prog) 23 5 32 Tryd.underlying23 Tryd.underlying5 Tryd.sizeOf5 a b HA.out HB.out HAL.out HBL.out w
  go_upto_region 4 with (fail)
  refine wp_region_list ?_
  iterate 21 (first | go_skip | go_guarded | go_step)
  refine wp_load_row 23 _ rfl ga rfl 23 (nums .u8 a).toArray (0, 0) _ HX2.out Tryd.underlying23 rfl (by rw [nums_size]; exact HIA.out) ?_
  go_step
  simp only [Act.put, List.setIfInBounds_toArray, List.set_cons_zero, List.set_cons_succ]
  go_guarded
  refine wp_load_row 23 _ rfl gb rfl 23 (nums .u8 b).toArray (0, 0) _ HY2.out Tryd.underlying23 rfl (by rw [nums_size]; exact HIB.out) ?_
  go_step
  simp only [Act.put, List.setIfInBounds_toArray, List.set_cons_zero, List.set_cons_succ]
  go_upto_region 6 with (fail)
  clear hla hlb f1 e1
  go_upto_region 7 with (fail)
  change Code.wp _ _ _ _ (w2.alloc (.cells (nums .u8 (headP a 0)).toArray 23))
  obtain ⟨w3, hw3⟩ : ∃ x, x = w2.alloc (.cells (nums .u8 (headP a 0)).toArray 23) := ⟨_, rfl⟩
  rw [← hw3]
  obtain ⟨gc, hgc⟩ : ∃ x, x = w2.heap.size := ⟨_, rfl⟩
  have hb3 : Below w2.heap.size w2 w3 := by rw [hw3]; exact (Below.refl _ _).alloc (Nat.le_refl _) _
  have HC3 := Lib.hid (show Blk gc 23 .u8 (headP a 0) w3 by rw [hw3, hgc]; exact heap_alloc_new w2 _)
  have HX3 := Lib.hid (HX2.out.below hb3)
  have HY3 := Lib.hid (HY2.out.below hb3)
  have HK3 := Lib.hid (HK2.out.below hb3)
  have HB3 := Lib.hid (HB2.out.trans (hb3.mono HB2.out.size))
  have HGC := Lib.hid (show w.heap.size ≤ gc by rw [hgc]; exact HB2.out.size)
  have HNA := Lib.hid (show ga ≠ gc by have := HX2.out.lt; omega)
  have HNB := Lib.hid (show gb ≠ gc by have := HY2.out.lt; omega)
  have HNK := Lib.hid (show 0 ≠ gc by have := HK2.out.lt; omega)
  rw [← hgc]
  clear hw3 hb3 hgc HX2 HY2 HK2 HB2
  go_wp2_with (refine wpList_load_nums rfl 23 _ rfl ga .u8 _ 23 _ rfl HX3.out Tryd.underlying23 rfl HIA.out ?_)
  refine (dev_cut a _ HA.out).mono ?_
  rintro e w4 ⟨rfl, hb4⟩
  have HC4 := Lib.hid (HC3.out.below hb4)
  have HX4 := Lib.hid (HX3.out.below hb4)
  have HY4 := Lib.hid (HY3.out.below hb4)
  have HK4 := Lib.hid (HK3.out.below hb4)
  have HB4 := Lib.hid (HB3.out.trans (hb4.mono HB3.out.size))
  clear hb4 HC3 HX3 HY3 HK3 HB3
  have HT := Lib.hid (show (a.take 16).length = 16 by rw [List.length_take, HA.out]; rfl)
  have HIE := Lib.hid (show (Tryd.prog.info? 34).map (·.size) = some (a.take 16).length by rw [HT.out]; exact Tryd.infoE)
  have HLL := Lib.hid (show (List.replicate 16 0).length = (a.take 16).length by rw [HT.out]; rfl)
  have HZ := Lib.hid (show Blk w4.heap.size 34 .u8 (List.replicate 16 0) (w4.alloc (.cells (nums .u8 (List.replicate 16 0)).toArray 34)) from heap_alloc_new w4 _)
  go_wp2_with (refine wpList_store_nums rfl 34 _ _ rfl rfl w4.heap.size .u8 _ (a.take 16) 34 rfl rfl HZ.out HIE.out HLL.out ?_)
  intro w5 hc hb
  obtain ⟨ge, hge⟩ : ∃ x, x = w4.heap.size := ⟨_, rfl⟩
  have hb5 : Below w4.heap.size w4 w5 := But.toBelow ((Below.refl _ w4).alloc (Nat.le_refl _) (.cells (nums .u8 (List.replicate 16 0)).toArray 34)) hb.out (Nat.le_refl _) (by simp)
  have HE5 := Lib.hid (show Blk ge 34 .u8 (a.take 16) w5 by rw [hge]; exact hc.out)
  have HC5 := Lib.hid (HC4.out.below hb5)
  have HX5 := Lib.hid (HX4.out.below hb5)
  have HY5 := Lib.hid (HY4.out.below hb5)
  have HK5 := Lib.hid (HK4.out.below hb5)
  have HB5 := Lib.hid (HB4.out.trans (hb5.mono HB4.out.size))
  have HNE := Lib.hid (show ge ≠ gc by have := HC4.out.lt; omega)
  rw [← hge]
  clear hb5 hc hb hge HZ HC4 HX4 HY4 HK4 HB4 HLL HIE
  go_wp2_with fail
  go_loopw [30] (fun i wq => ∃ k : Nat, k ≤ 16 ∧ i = .int .i64 k ∧ Blk gc 23 .u8 (headP a k) wq ∧ But gc w5 wq) (fun i _ => 16 - (intOf i).toNat)
  case atStart => exact ⟨0, by omega, rfl, HC5.out, But.refl _ _⟩
  case round =>
    clear HC5
    obtain ⟨k, hk, rfl, hc, hb⟩ := hrel
    have HC := Lib.hid hc
    have HBB := Lib.hid hb
    clear hc hb
    by_cases hlk : k < 16
    · have c1 := (HE5.out.but HBB.out HNE.out).cell k (by rw [HT.out]; omega)
      rw [take_getD _ _ _ hlk] at c1
      have c2 := HC.out.cell k (by rw [headP_len HA.out (by omega)]; omega)
      have hf := HC.out.frozen k
      have HS := Lib.hid (HC.out.set k (a.getD k 0))
      rw [headP_set HA.out (by omega)] at HS
      generalize a.getD k 0 = x at c1 HS
      generalize (headP a k).getD k 0 = y at c2
      have b1 : (k : Int) < 32 := by omega
      have b2 : (k : Int) < 16 := by omega
      go_wp2_with fail
      exact ⟨⟨k + 1, by omega, by go_num, HS.out, HBB.out.setCell _ _⟩, by simp [intOf]; omega⟩
    · obtain rfl : k = 16 := by omega
      rw [show ((16 : Nat) : Int) = 16 from rfl]
      have HXr := Lib.hid (HX5.out.but HBB.out HNA.out)
      have HYr := Lib.hid (HY5.out.but HBB.out HNB.out)
      have HKr := Lib.hid (HK5.out.but HBB.out HNK.out)
      have HBr := Lib.hid (show Below w.heap.size w wr from But.toBelow HB5.out HBB.out HGC.out HB5.out.size)
      clear HX5 HY5 HK5 HB5 HBB HE5
      go_upto_region 13 with (fail)
      have hla : (txt (hexL a)).length = 64 := by rw [txt_len, hexL_len, HA.out]
      have hlb : (txt (hexL b)).length = 64 := by rw [txt_len, hexL_len, HB.out]
      have HCL := Lib.hid (show (headP a 16).length = 32 from headP_len HA.out (by omega))
      have hlc : (txt (hexL (headP a 16))).length = 64 := by rw [txt_len, hexL_len, HCL.out]
      have HIC := Lib.hid (show (Tryd.prog.info? 23).map (·.size) = some (headP a 16).length by rw [HCL.out]; exact Tryd.infoA)
      have x1 : (⟨(txt (hexL a)).toArray⟩ : ByteArray).extract 0 32 = ⟨(txt (hexL (a.take 16))).toArray⟩ := hex_head 16
      have x2 : (⟨(txt (hexL b)).toArray⟩ : ByteArray).extract 0 32 = ⟨(txt (hexL (b.take 16))).toArray⟩ := hex_head 16
      have x3 : (⟨(txt (hexL (headP a 16))).toArray⟩ : ByteArray).extract 0 32 = ⟨(txt (hexL (a.take 16))).toArray⟩ := by rw [show (32 : Nat) = 2 * 16 from rfl, hex_head 16, headP_take HA.out]
      have f2 : (txt (hexL (a.take 16)) == txt (hexL (b.take 16))) = (a.take 16 == b.take 16) := hex_beq (fun x hx => HAL.out x (List.mem_of_mem_take hx)) (fun x hx => HBL.out x (List.mem_of_mem_take hx))
      have e2 := fun w => equal_nums (P := Tryd.prog) 34 5 16 Tryd.underlying34 Tryd.underlying5 Tryd.sizeOf5 (a.take 16) (b.take 16) HT.out (by rw [List.length_take, HB.out]; rfl) (fun x hx => HAL.out x (List.mem_of_mem_take hx)) (fun x hx => HBL.out x (List.mem_of_mem_take hx)) w
      refine wp_region_class (fun w' => SS wr w') (by kernel_rfl) (by kernel_rfl) (SS.start HKr.out) ?_
      repeat (first
        | (refine wpQuiet_want (by rfl) (fun K hK => ?_); refine quiet_load_nums 23 _ rfl ga .u8 a 23 _ rfl (fun w' h => HXr.out.below h.1) Tryd.underlying23 rfl HIA.out ?_; refine hK _ ?_; clear hK K; simp only [Act.put, List.setIfInBounds_toArray, List.set_cons_zero, List.set_cons_succ])
        | (refine wpQuiet_want (by rfl) (fun K hK => ?_); refine quiet_load_nums 23 _ rfl gb .u8 b 23 _ rfl (fun w' h => HYr.out.below h.1) Tryd.underlying23 rfl HIB.out ?_; refine hK _ ?_; clear hK K; simp only [Act.put, List.setIfInBounds_toArray, List.set_cons_zero, List.set_cons_succ])
        | (refine wpQuiet_want (by rfl) (fun K hK => ?_); refine quiet_load_nums 23 _ rfl gc .u8 (headP a 16) 23 _ rfl (fun w' h => HC.out.below h.1) Tryd.underlying23 rfl HIC.out ?_; refine hK _ ?_; clear hK K; simp only [Act.put, List.setIfInBounds_toArray, List.set_cons_zero, List.set_cons_succ])
        | go_big_quiet_step ((intro hs; first | rfl | (go_at_call_of 16 (Value.agg (nums .u8 a).toArray); exact (dev_cut a _ HA.out).mono fun e w' h => ⟨h.1, hs.next h.2⟩) | (go_at_call_of 16 (Value.agg (nums .u8 b).toArray); exact (dev_cut b _ HB.out).mono fun e w' h => ⟨h.1, hs.next h.2⟩) | (go_at_call 18; exact (dev_hex (headP a 16) _ HCL.out (headP_lt HAL.out 16)).mono fun e w' h => ⟨h.1, hs.next h.2⟩))))
      refine wpQuiet_nil ?_
      intro w' hs'
      clear hla hlb hlc x1 x2 x3 f2 e2
      go_wp2_with fail
      go_ret
      exact ⟨rfl, HBr.out.trans (hs'.1.mono HBr.out.size)⟩
end Go.Proofs.YtolnbifpnoghlaaDoor.shaHex
