/-
  The developers' Text.
-/
import Derived.Test.YthgfpojfnhkckaaDoorOpJoin
namespace Go.Proofs.YthgfpojfnhkckaaDoor
open Go.RowKit Go.BigFrame

theorem opB_le9 {o : OpN} (h : o.Fit) : (opB o).length ≤ 4000 := opB_le (by have := h.d.high; omega) (by have := h.ahigh; omega) (by have := h.dhigh; omega) h.d.key h.d.val h.ok h.many
set_option maxHeartbeats 4000000 in
set_option maxRecDepth 100000 in
theorem dev_text9 (o : OpN) (pa : Option Addr) (pc : Nat) (w : World) (ho : o.Fit) (hp : IAt pa o.preds w) :
    Calls Tryd.prog 9 #[.agg (opV o pa pc)] w fun e w' => e = .returned (.string ⟨(opB o).toArray⟩) ∧ Below w.heap.size w w' := by
  have hx : Cells w.heap.size 30 (opV o pa pc) (w.alloc (.cells (opV o pa pc) 30)) := heap_alloc_new w _
  have hb : Below w.heap.size w (w.alloc (.cells (opV o pa pc) 30)) := (Below.refl _ _).alloc (Nat.le_refl _) _
  have HX := Lib.hid hx
  have HB := Lib.hid hb
  have HP := Lib.hid (hp.below hb)
  have HD := Lib.hid ho
  have HLEN := Lib.hid (opB_le9 ho)
  clear hx hb ho hp
  go_enter Tryd.func9, Tryd.ntmps9
  go_upto_region 1 with (fail)
  obtain ⟨w1, hw1⟩ : ∃ x, x = w.alloc (.cells (opV o pa pc) 30) := ⟨_, rfl⟩
  rw [← hw1] at HX HB HP ⊢
  clear hw1
  obtain ⟨c0, c35, c36, c37⟩ := op_cells HD.out.ok.ref.1 HX.out
  have hg := HX.out.lt
  have HSD := Lib.hid (show (Tryd.prog.info? 27).map (·.size) = some (draftL o.d).length by rw [draftL_len HD.out.ok.ref.1]; exact Tryd.sizeD)
  have HJ := Lib.hid (fun w' (q : Below w1.heap.size w1 w') => dev_joined o.preds pa pc w' HD.out.preds (HP.out.below q) (by have := HD.out.many; omega))
  have HT := Lib.hid (fun w' => dev_draftText o.d HD.out.d w')
  obtain ⟨A, hA⟩ : ∃ x, o.author = x := ⟨_, rfl⟩
  obtain ⟨D, hD⟩ : ∃ x, o.depth = x := ⟨_, rfl⟩
  obtain ⟨n, hn⟩ : ∃ x, o.preds.length = x := ⟨_, rfl⟩
  have HE := Shut.mk (show opB o = listB [numB A.toNat, numB D.toNat, predsB o.preds, draftB o.d] by rw [opB, hA, hD])
  rw [hA] at c35
  rw [hD] at c36
  rw [hn] at c37 HJ
  have HNA := Lib.hid (fun w' => num_int A w' (by have := HD.out.alow; rw [hA] at this; exact this) (by have := HD.out.ahigh; rw [hA] at this; exact this))
  have HND := Lib.hid (fun w' => num_int D w' (by have := HD.out.dlow; rw [hD] at this; exact this) (by have := HD.out.dhigh; rw [hD] at this; exact this))
  have HC0 := Lib.hid (fun (w' : World) (q : Below w1.heap.size w1 w') => show w'.rangeAt w.heap.size 0 (draftL o.d) from rangeAt_belowI c0 q hg)
  have HC5 := Lib.hid (fun (w' : World) (q : Below w1.heap.size w1 w') => (q.cell (p := ⟨w.heap.size, 35, none⟩) hg).trans c35)
  have HC6 := Lib.hid (fun (w' : World) (q : Below w1.heap.size w1 w') => (q.cell (p := ⟨w.heap.size, 36, none⟩) hg).trans c36)
  have HC7 := Lib.hid (fun (w' : World) (q : Below w1.heap.size w1 w') => (q.cell (p := ⟨w.heap.size, 37, none⟩) hg).trans c37)
  obtain ⟨PB, hPB⟩ : ∃ x, predsB o.preds = x := ⟨_, rfl⟩
  obtain ⟨DB, hDB⟩ : ∃ x, draftB o.d = x := ⟨_, rfl⟩
  rw [hPB] at HJ HE
  rw [hDB] at HT HE
  have HLN := Lib.hid (show (listB [numB A.toNat, numB D.toNat, PB, DB]).length ≤ 4000 by rw [← HE.out]; exact HLEN.out)
  clear c0 c35 c36 c37 hg hA hD hn hPB hDB HX HLEN
  refine wp_region_class_tail (fun w' => Below w1.heap.size w1 w') 12 (by kernel_rfl) (by kernel_rfl) (Below.refl _ _).drew ?_
  simp only [List.take_succ_cons, List.take_zero, List.drop_succ_cons, List.drop_zero]
  repeat (first
    | (go_big_quiet_want; refine quiet_load_cell 3 _ rfl ⟨w.heap.size, 35, none⟩ _ rfl HC5.out Tryd.isAgg3 ?_; go_big_quiet_on; simp only [Act.put, List.setIfInBounds_toArray, List.set_cons_zero, List.set_cons_succ])
    | (go_big_quiet_want; refine quiet_load_cell 3 _ rfl ⟨w.heap.size, 36, none⟩ _ rfl HC6.out Tryd.isAgg3 ?_; go_big_quiet_on; simp only [Act.put, List.setIfInBounds_toArray, List.set_cons_zero, List.set_cons_succ])
    | (go_big_quiet_want; refine quiet_load_cell 28 _ rfl ⟨w.heap.size, 37, none⟩ _ rfl HC7.out Tryd.isAgg28 ?_; go_big_quiet_on; simp only [Act.put, List.setIfInBounds_toArray, List.set_cons_zero, List.set_cons_succ])
    | (go_big_quiet_want; refine quiet_load_row 27 _ rfl w.heap.size 0 (draftL o.d) _ rfl HC0.out Tryd.underlying27 rfl HSD.out ?_; go_big_quiet_on; simp only [Act.put, List.setIfInBounds_toArray, List.set_cons_zero, List.set_cons_succ])
    | go_big_quiet_step ((intro hs'; first
        | (go_at_call_of 18 (Value.int .i64 A); exact (HNA.out _).mono fun e w' h => ⟨h.1, hs'.trans (h.2.mono hs'.size)⟩)
        | (go_at_call_of 18 (Value.int .i64 D); exact (HND.out _).mono fun e w' h => ⟨h.1, hs'.trans (h.2.mono hs'.size)⟩)
        | (go_at_call 21; exact (HJ.out _ hs').mono fun e w' h => ⟨h.1, hs'.trans (h.2.mono hs'.size)⟩)
        | (go_at_call 7; exact (HT.out _).mono fun e w' h => ⟨h.1, hs'.trans (h.2.mono hs'.size)⟩)
        | rfl)))
  refine wpQuiet_nil ?_
  intro w2 hs2
  have HB2 := Lib.hid (HB.out.trans (hs2.mono HB.out.size))
  clear hs2 HB HC0 HC5 HC6 HC7 HNA HND HJ HT
  go_wp2_with fail
  refine (list_any (some ⟨w2.heap.size, 0, none⟩) 4 [numB A.toNat, numB D.toNat, PB, DB] _ (at_four9 w2 _ _ _ _) (by simp) (by have := HLN.out; omega)).mono ?_
  rintro e w3 ⟨rfl, hb⟩
  have HB3 := Lib.hid (HB2.out.trans (((Below.refl _ w2).alloc (Nat.le_refl _) _).trans (hb.mono (by simp)) |>.mono HB2.out.size))
  clear hb HB2
  go_wp2_with fail
  go_ret
  exact ⟨by rw [HE.out]; rfl, HB3.out⟩
end Go.Proofs.YthgfpojfnhkckaaDoor
