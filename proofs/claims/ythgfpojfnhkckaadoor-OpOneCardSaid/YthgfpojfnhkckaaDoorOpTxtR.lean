/-
  The document's num, DraftText, Text.
-/
import Derived.Test.YthgfpojfnhkckaaDoorOpTxtO
import Derived.Test.YthgfpojfnhkckaaDoorRefnum
namespace Go.Proofs.YthgfpojfnhkckaaDoor
open Go.RowKit Go.BigFrame

theorem ref_num9 (n : Int) (w : World) (h2 : n ≤ 9223372036854775807) :
    Calls Tryd.prog 20 #[.int .i64 n] w fun e w' => e = .returned (.string ⟨(numB n.toNat).toArray⟩) ∧ Below w.heap.size w w' := by
  by_cases h0 : n < 0
  · have HN := Lib.hid (rnumref_any 0 w (by decide))
    have HE := Shut.mk (show n.toNat = 0 by omega)
    go_enter Tryd.func20, Tryd.ntmps20
    go_wp2_with fail
    refine HN.out.mono ?_
    rintro e w1 ⟨rfl, hb⟩
    have HB := Lib.hid hb
    clear hb
    go_wp2_with fail
    go_ret
    exact ⟨by rw [HE.out]; rfl, HB.out⟩
  · obtain ⟨m, rfl⟩ := Int.eq_ofNat_of_zero_le (show 0 ≤ n by omega)
    have HN := Lib.hid (rnumref_any m w (by omega))
    have hnl : ¬ (m : Int) < 0 := h0
    go_enter Tryd.func20, Tryd.ntmps20
    go_wp2_with fail
    refine HN.out.mono ?_
    rintro e w1 ⟨rfl, hb⟩
    have HB := Lib.hid hb
    clear hb
    go_wp2_with fail
    go_ret
    exact ⟨by rw [Int.toNat_natCast]; rfl, HB.out⟩
set_option maxHeartbeats 4000000 in
set_option maxRecDepth 100000 in
theorem ref_draftText (d : DraftN) (hd : d.Fit) (w : World) :
    Calls Tryd.prog 8 #[.agg (draftV d)] w fun e w' => e = .returned (.string ⟨(draftB d).toArray⟩) ∧ Below w.heap.size w w' := by
  have hx : Cells w.heap.size 27 (draftV d) (w.alloc (.cells (draftV d) 27)) := heap_alloc_new w _
  have hb : Below w.heap.size w (w.alloc (.cells (draftV d) 27)) := (Below.refl _ _).alloc (Nat.le_refl _) _
  have HX := Lib.hid hx
  have HB := Lib.hid hb
  have HD := Lib.hid hd
  have HLEN := Lib.hid (draftB_le9 hd)
  clear hx hb hd
  go_enter Tryd.func8, Tryd.ntmps8
  go_upto_region 1 with (fail)
  obtain ⟨w1, hw1⟩ : ∃ x, x = w.alloc (.cells (draftV d) 27) := ⟨_, rfl⟩
  rw [← hw1] at HX HB ⊢
  clear hw1
  obtain ⟨c0, c1, c2, c3⟩ := draft_cells HX.out
  have hg := HX.out.lt
  obtain ⟨k, hk⟩ : ∃ k, d.kind = k := ⟨_, rfl⟩
  have HK := Shut.mk hk
  rw [hk] at c0
  have HC0 := Lib.hid (fun (w' : World) (q : Below w1.heap.size w1 w') => (q.cell (p := ⟨w.heap.size, 0, none⟩) hg).trans c0)
  have HC1 := Lib.hid (fun (w' : World) (q : Below w1.heap.size w1 w') => (q.cell (p := ⟨w.heap.size, 1, none⟩) hg).trans c1)
  have HC2 := Lib.hid (fun (w' : World) (q : Below w1.heap.size w1 w') => (q.cell (p := ⟨w.heap.size, 2, none⟩) hg).trans c2)
  have HC3 := Lib.hid (fun (w' : World) (q : Below w1.heap.size w1 w') => conv_mid (P := Tryd.prog) (src := 41) (dst := 9) (c := 32) Tryd.underlying41 Tryd.underlying5 Tryd.underlying9 HD.out.ref.1.symm HD.out.ref.2 (rangeAt_belowI c3 q hg))
  have HN := Lib.hid (fun w' => ref_num9 k w' (by have := HD.out.high; rw [hk] at this; exact this))
  clear c0 c1 c2 c3 hg hk
  refine wp_region_class_tail (fun w' => Below w1.heap.size w1 w') 10 (by kernel_rfl) (by kernel_rfl) (Below.refl _ _).drew ?_
  simp only [List.take_succ_cons, List.take_zero, List.drop_succ_cons, List.drop_zero]
  repeat (first
    | (go_big_quiet_want; refine quiet_load_cell 3 _ rfl ⟨w.heap.size, 0, none⟩ _ rfl HC0.out Tryd.isAgg3 ?_; go_big_quiet_on; simp only [Act.put, List.setIfInBounds_toArray, List.set_cons_zero, List.set_cons_succ])
    | (go_big_quiet_want; refine quiet_load_cell 9 _ rfl ⟨w.heap.size, 1, none⟩ _ rfl HC1.out Tryd.isAgg9 ?_; go_big_quiet_on; simp only [Act.put, List.setIfInBounds_toArray, List.set_cons_zero, List.set_cons_succ])
    | (go_big_quiet_want; refine quiet_load_cell 9 _ rfl ⟨w.heap.size, 2, none⟩ _ rfl HC2.out Tryd.isAgg9 ?_; go_big_quiet_on; simp only [Act.put, List.setIfInBounds_toArray, List.set_cons_zero, List.set_cons_succ])
    | (go_big_quiet_want; refine quiet_conv 41 9 _ rfl (.slice (some ⟨w.heap.size, 3, none⟩) 32 32) _ rfl HC3.out ?_; go_big_quiet_on; simp only [Act.put, List.setIfInBounds_toArray, List.set_cons_zero, List.set_cons_succ])
    | go_big_quiet_step ((intro hs'; first
        | (go_at_call 20; exact (HN.out _).mono fun e w' h => ⟨h.1, hs'.trans (h.2.mono hs'.size)⟩)
        | rfl)))
  refine wpQuiet_nil ?_
  intro w2 hs2
  have HB2 := Lib.hid (HB.out.trans (hs2.mono HB.out.size))
  clear hs2 HX HB HC0 HC1 HC2 HC3 HN
  go_wp2_with fail
  refine (rlistref_any (some ⟨w2.heap.size, 0, none⟩) 4 [numB k.toNat, d.key, d.val, txt d.ref] _ (at_four9 w2 _ _ _ _) (by simp) (by have := HLEN.out; rw [draftB, HK.out] at this; omega)).mono ?_
  rintro e w3 ⟨rfl, hb⟩
  have HB3 := Lib.hid (HB2.out.trans (((Below.refl _ w2).alloc (Nat.le_refl _) _).trans (hb.mono (by simp)) |>.mono HB2.out.size))
  clear hb HB2
  go_wp2_with fail
  go_ret
  exact ⟨by rw [draftB, HK.out]; rfl, HB3.out⟩
set_option maxHeartbeats 4000000 in
set_option maxRecDepth 100000 in
theorem ref_text9 (o : OpN) (pa : Option Addr) (pc : Nat) (w : World) (ho : o.Fit) (hp : IAt pa o.preds w) :
    Calls Tryd.prog 10 #[.agg (opV o pa pc)] w fun e w' => e = .returned (.string ⟨(opB o).toArray⟩) ∧ Below w.heap.size w w' := by
  have hx : Cells w.heap.size 30 (opV o pa pc) (w.alloc (.cells (opV o pa pc) 30)) := heap_alloc_new w _
  have hb : Below w.heap.size w (w.alloc (.cells (opV o pa pc) 30)) := (Below.refl _ _).alloc (Nat.le_refl _) _
  have HX := Lib.hid hx
  have HB := Lib.hid hb
  have HP := Lib.hid (hp.below hb)
  have HD := Lib.hid ho
  have HLEN := Lib.hid (opB_le9 ho)
  clear hx hb ho hp
  go_enter Tryd.func10, Tryd.ntmps10
  go_upto_region 1 with (fail)
  obtain ⟨w1, hw1⟩ : ∃ x, x = w.alloc (.cells (opV o pa pc) 30) := ⟨_, rfl⟩
  rw [← hw1] at HX HB HP ⊢
  clear hw1
  obtain ⟨c0, c35, c36, c37⟩ := op_cells HD.out.ok.ref.1 HX.out
  have hg := HX.out.lt
  obtain ⟨n, hn⟩ : ∃ x, o.preds.length = x := ⟨_, rfl⟩
  have HNN := Shut.mk hn
  have hn70 : n ≤ 70 := by rw [← hn]; exact HD.out.many
  rw [hn] at c37
  have HCC := Lib.hid (And.intro c0 (And.intro c35 c36))
  clear hn c0 c35 c36
  have HR0 := Lib.hid (show ∀ k, k ≤ n → (joinN o.preds k).length = 32 * k from fun k hk => joinN_len HD.out.preds (by rw [HNN.out]; exact hk))
  go_wp2_with fail
  go_loopw [3, 9] (fun v i wr => ∃ k : Nat, k ≤ n ∧ i = .int .i64 k ∧ v = .string ⟨(txt (joinN o.preds k)).toArray⟩ ∧ Below w1.heap.size w1 wr) (fun _ i _ => n - (intOf i).toNat)
  case atStart => exact ⟨0, Nat.zero_le _, rfl, rfl, Below.refl _ _⟩
  case round =>
    obtain ⟨k, hk, rfl, rfl, hb⟩ := hrel
    have HBW := Lib.hid hb
    have HLK := Shut.mk (HR0.out k hk)
    have HPW := Lib.hid (HP.out.below hb)
    clear hb
    by_cases hlt : k < n
    · obtain ⟨b, ob, rfl, hbl⟩ := HPW.out.some (by rw [HNN.out]; omega)
      have g1 := HPW.out.get (i := k) (by rw [HNN.out]; omega)
      have i1 := Ids.getD HD.out.preds (i := k) (by rw [HNN.out]; omega)
      have HNX := Shut.mk (show txt (joinN o.preds (k + 1)) = txt (joinN o.preds k) ++ txt (o.preds.getD k []) by rw [joinN_next (by rw [HNN.out]; exact hlt), txt_append])
      obtain ⟨x, hx⟩ : ∃ x, o.preds.getD k [] = x := ⟨_, rfl⟩
      have HLT := Lib.hid (show (txt (joinN o.preds k)).length = 32 * k by rw [txt_len]; exact HLK.out)
      obtain ⟨R, hR⟩ : ∃ R, txt (joinN o.preds k) = R := ⟨_, rfl⟩
      rw [hx] at g1 i1 HNX
      rw [hR] at HNX HLT ⊢
      have HG1 := Lib.hid g1
      have HS1 := Lib.hid (show (Tryd.prog.info? 25).map (·.size) = some x.length by rw [i1.1]; exact Tryd.sizeI)
      have HL2 := Lib.hid (show (List.replicate 32 0).length = x.length by rw [i1.1]; rfl)
      have HXO := Lib.hid i1
      clear hx hR g1 i1
      go_wp2_with (first
        | (refine wpList_load_id rfl 25 _ rfl b (ob + k * 32) x _ rfl HG1.out Tryd.underlying25 rfl HS1.out ?_)
        | (refine wpList_store_nums rfl 25 _ _ rfl rfl wr.heap.size .u8 (List.replicate 32 0) x 25 rfl rfl (heap_alloc_new wr _) HS1.out HL2.out ?_))
      intro w5 hc' hb'
      have hconv := conv_blk (P := Tryd.prog) w5 41 9 5 wr.heap.size 32 32 x 25 HXO.out.1.symm HXO.out.2 hc'.out Tryd.underlying41 Tryd.underlying5 Tryd.underlying9
      have HB5 := Lib.hid (show Below w1.heap.size w1 w5 from But.toBelow (HBW.out.alloc HBW.out.size _) hb'.out HBW.out.size (Nat.le_trans HBW.out.size (by rw [World.size_alloc]; exact Nat.le_succ _)))
      have hcat := cat2 R (txt x)
      have hl1 := HLT.out
      have hl2 : (txt x).length = 32 := by rw [txt_len]; exact HXO.out.1
      clear hc' hb' HL2
      go_wp2_with fail
      exact ⟨⟨k + 1, by omega, by go_num, by rw [HNX.out], HB5.out⟩, by simp [intOf]; omega⟩
    · obtain rfl : k = n := by omega
      have HTX := Shut.mk (show txt (joinN o.preds k) = predsB o.preds by rw [← HNN.out, joinN_txt])
      rw [HTX.out]
      have hgw : w.heap.size < wr.heap.size := Nat.lt_of_lt_of_le hg HBW.out.size
      have HSD := Lib.hid (show (Tryd.prog.info? 27).map (·.size) = some (draftL o.d).length by rw [draftL_len HD.out.ok.ref.1]; exact Tryd.sizeD)
      have HT := Lib.hid (fun w' => ref_draftText o.d HD.out.d w')
      obtain ⟨A, hA⟩ : ∃ x, o.author = x := ⟨_, rfl⟩
      obtain ⟨D, hD⟩ : ∃ x, o.depth = x := ⟨_, rfl⟩
      have HE := Shut.mk (show opB o = listB [numB A.toNat, numB D.toNat, predsB o.preds, draftB o.d] by rw [opB, hA, hD])
      have c35 := HCC.out.2.1
      have c36 := HCC.out.2.2
      rw [hA] at c35
      rw [hD] at c36
      have HNA := Lib.hid (fun w' => ref_num9 A w' (by have := HD.out.ahigh; rw [hA] at this; exact this))
      have HND := Lib.hid (fun w' => ref_num9 D w' (by have := HD.out.dhigh; rw [hD] at this; exact this))
      have HC0 := Lib.hid (fun (w' : World) (q : Below wr.heap.size wr w') => show w'.rangeAt w.heap.size 0 (draftL o.d) from rangeAt_belowI (rangeAt_belowI HCC.out.1 HBW.out hg) q hgw)
      have HC5 := Lib.hid (fun (w' : World) (q : Below wr.heap.size wr w') => (q.cell (p := ⟨w.heap.size, 35, none⟩) hgw).trans ((HBW.out.cell (p := ⟨w.heap.size, 35, none⟩) hg).trans c35))
      have HC6 := Lib.hid (fun (w' : World) (q : Below wr.heap.size wr w') => (q.cell (p := ⟨w.heap.size, 36, none⟩) hgw).trans ((HBW.out.cell (p := ⟨w.heap.size, 36, none⟩) hg).trans c36))
      obtain ⟨PB, hPB⟩ : ∃ x, predsB o.preds = x := ⟨_, rfl⟩
      obtain ⟨DB, hDB⟩ : ∃ x, draftB o.d = x := ⟨_, rfl⟩
      rw [hPB] at HE ⊢
      rw [hDB] at HT HE
      have HLN := Lib.hid (show (listB [numB A.toNat, numB D.toNat, PB, DB]).length ≤ 4000 by rw [← HE.out]; exact HLEN.out)
      have HBR := Lib.hid (HB.out.trans (HBW.out.mono HB.out.size))
      clear c35 c36 hg hA hD hPB hDB HX HLEN hgw HCC HTX HR0 HLK HP HPW
      go_upto_region 7 with (fail)
      refine wp_region_class_tail (fun w' => Below wr.heap.size wr w') 10 (by kernel_rfl) (by kernel_rfl) (Below.refl _ _).drew ?_
      simp only [List.take_succ_cons, List.take_zero, List.drop_succ_cons, List.drop_zero]
      repeat (first
        | (go_big_quiet_want; refine quiet_load_cell 3 _ rfl ⟨w.heap.size, 35, none⟩ _ rfl HC5.out Tryd.isAgg3 ?_; go_big_quiet_on; simp only [Act.put, List.setIfInBounds_toArray, List.set_cons_zero, List.set_cons_succ])
        | (go_big_quiet_want; refine quiet_load_cell 3 _ rfl ⟨w.heap.size, 36, none⟩ _ rfl HC6.out Tryd.isAgg3 ?_; go_big_quiet_on; simp only [Act.put, List.setIfInBounds_toArray, List.set_cons_zero, List.set_cons_succ])
        | (go_big_quiet_want; refine quiet_load_row 27 _ rfl w.heap.size 0 (draftL o.d) _ rfl HC0.out Tryd.underlying27 rfl HSD.out ?_; go_big_quiet_on; simp only [Act.put, List.setIfInBounds_toArray, List.set_cons_zero, List.set_cons_succ])
        | go_big_quiet_step ((intro hs'; first
            | (go_at_call_of 20 (Value.int .i64 A); exact (HNA.out _).mono fun e w' h => ⟨h.1, hs'.trans (h.2.mono hs'.size)⟩)
            | (go_at_call_of 20 (Value.int .i64 D); exact (HND.out _).mono fun e w' h => ⟨h.1, hs'.trans (h.2.mono hs'.size)⟩)
            | (go_at_call 8; exact (HT.out _).mono fun e w' h => ⟨h.1, hs'.trans (h.2.mono hs'.size)⟩)
            | rfl)))
      refine wpQuiet_nil ?_
      intro w2 hs2
      have HB2 := Lib.hid (HBR.out.trans (hs2.mono HBR.out.size))
      clear hs2 HB HBR HC0 HC5 HC6 HNA HND HT
      go_wp2_with fail
      refine (rlistref_any (some ⟨w2.heap.size, 0, none⟩) 4 [numB A.toNat, numB D.toNat, PB, DB] _ (at_four9 w2 _ _ _ _) (by simp) (by have := HLN.out; omega)).mono ?_
      rintro e w3 ⟨rfl, hb⟩
      have HB3 := Lib.hid (HB2.out.trans (((Below.refl _ w2).alloc (Nat.le_refl _) _).trans (hb.mono (by simp)) |>.mono HB2.out.size))
      clear hb HB2
      go_wp2_with fail
      go_ret
      exact ⟨by rw [HE.out]; rfl, HB3.out⟩
end Go.Proofs.YthgfpojfnhkckaaDoor
