/-
  The developers' DraftText.
-/
import Derived.Test.YthgfpojfnhkckaaDoorOpFit
import Derived.Test.YthgfpojfnhkckaaDoorOpGoodD
import Derived.Test.YthgfpojfnhkckaaDoorNum
import Derived.Test.YthgfpojfnhkckaaDoorList
namespace Go.Proofs.YthgfpojfnhkckaaDoor
open Go.RowKit Go.BigFrame

theorem at_four9 (w : World) (p q r s : List UInt8) : StrsAt (some ⟨w.heap.size, 0, none⟩) [p, q, r, s] (w.alloc (.cells #[.string ⟨p.toArray⟩, .string ⟨q.toArray⟩, .string ⟨r.toArray⟩, .string ⟨s.toArray⟩] 9)) := by
  refine strsAt_own (B := w.heap.size) (c := 4) ?_
  exact World.ownsRow_lit (base := w.heap.size) (e := 9) (size := 1) w #[.string ⟨p.toArray⟩, .string ⟨q.toArray⟩, .string ⟨r.toArray⟩, .string ⟨s.toArray⟩] 4 (Nat.le_refl _) (by unfold maxLen; omega) rfl
/-- A name's bytes in the middle of a block, as a text. -/
theorem conv_mid {P : Program} {src dst e : TypeId} (hs : P.underlying src = some (.slice e)) (he : P.underlying e = some (.int .u8)) (hd : P.underlying dst = some .string) {g o c n : Nat} {l : List Nat} {w : World} (hn : n = l.length) (hl : ∀ x ∈ l, x < 256) (h : w.rangeAt g o (nums .u8 l)) :
    (convert src dst (.slice (some ⟨g, o, none⟩) n c)).run P w = .ok (.string ⟨(txt l).toArray⟩) w := by
  subst hn
  have h2 := run_convert_bytes_back (P := P) w src dst e ⟨g, o, none⟩ c (txt l) hs he hd (fun j hj => by
    rw [txt_len] at hj
    rw [Addr.add_mid, h j _ (by rw [nums, List.getElem?_map, List.getElem?_eq_getElem hj]; rfl)]
    have h1 := hl _ (List.getElem_mem hj)
    simp only [txt, List.getElem_map]
    rw [show (UInt8.ofNat l[j]).toNat = l[j] by simp; omega])
  rw [txt_len] at h2
  exact h2
theorem draftB_le9 {d : DraftN} (h : d.Fit) : (draftB d).length ≤ 1200 := draftB_le (by have := h.high; omega) h.key h.val h.ref.1
set_option maxHeartbeats 4000000 in
set_option maxRecDepth 100000 in
theorem dev_draftText (d : DraftN) (hd : d.Fit) (w : World) :
    Calls Tryd.prog 7 #[.agg (draftV d)] w fun e w' => e = .returned (.string ⟨(draftB d).toArray⟩) ∧ Below w.heap.size w w' := by
  have hx : Cells w.heap.size 27 (draftV d) (w.alloc (.cells (draftV d) 27)) := heap_alloc_new w _
  have hb : Below w.heap.size w (w.alloc (.cells (draftV d) 27)) := (Below.refl _ _).alloc (Nat.le_refl _) _
  have HX := Lib.hid hx
  have HB := Lib.hid hb
  have HD := Lib.hid hd
  have HLEN := Lib.hid (draftB_le9 hd)
  clear hx hb hd
  go_enter Tryd.func7, Tryd.ntmps7
  go_upto_region 1 with (fail)
  obtain ⟨w1, hw1⟩ : ∃ x, x = w.alloc (.cells (draftV d) 27) := ⟨_, rfl⟩
  rw [← hw1] at HX HB ⊢
  clear hw1
  obtain ⟨c0, c1, c2, c3⟩ := draft_cells HX.out
  have hg := HX.out.lt
  obtain ⟨k, hk⟩ : ∃ k, d.kind = k := ⟨_, rfl⟩
  have HK := Shut.mk hk
  rw [hk] at c0
  have HC0 := Lib.hid (fun (w' : World) (q : Below w1.heap.size w1 w') => (q.cell (p := ⟨w.heap.size, 0, none⟩) hg).trans c0)
  have HC1 := Lib.hid (fun (w' : World) (q : Below w1.heap.size w1 w') => (q.cell (p := ⟨w.heap.size, 1, none⟩) hg).trans c1)
  have HC2 := Lib.hid (fun (w' : World) (q : Below w1.heap.size w1 w') => (q.cell (p := ⟨w.heap.size, 2, none⟩) hg).trans c2)
  have HC3 := Lib.hid (fun (w' : World) (q : Below w1.heap.size w1 w') => conv_mid (P := Tryd.prog) (src := 41) (dst := 9) (c := 32) Tryd.underlying41 Tryd.underlying5 Tryd.underlying9 HD.out.ref.1.symm HD.out.ref.2 (rangeAt_belowI c3 q hg))
  have HN := Lib.hid (fun w' => num_int k w' (by have := HD.out.low; rw [hk] at this; exact this) (by have := HD.out.high; rw [hk] at this; exact this))
  clear c0 c1 c2 c3 hg hk
  refine wp_region_class_tail (fun w' => Below w1.heap.size w1 w') 10 (by kernel_rfl) (by kernel_rfl) (Below.refl _ _).drew ?_
  simp only [List.take_succ_cons, List.take_zero, List.drop_succ_cons, List.drop_zero]
  repeat (first
    | (go_big_quiet_want; refine quiet_load_cell 3 _ rfl ⟨w.heap.size, 0, none⟩ _ rfl HC0.out Tryd.isAgg3 ?_; go_big_quiet_on; simp only [Act.put, List.setIfInBounds_toArray, List.set_cons_zero, List.set_cons_succ])
    | (go_big_quiet_want; refine quiet_load_cell 9 _ rfl ⟨w.heap.size, 1, none⟩ _ rfl HC1.out Tryd.isAgg9 ?_; go_big_quiet_on; simp only [Act.put, List.setIfInBounds_toArray, List.set_cons_zero, List.set_cons_succ])
    | (go_big_quiet_want; refine quiet_load_cell 9 _ rfl ⟨w.heap.size, 2, none⟩ _ rfl HC2.out Tryd.isAgg9 ?_; go_big_quiet_on; simp only [Act.put, List.setIfInBounds_toArray, List.set_cons_zero, List.set_cons_succ])
    | (go_big_quiet_want; refine quiet_conv 41 9 _ rfl (.slice (some ⟨w.heap.size, 3, none⟩) 32 32) _ rfl HC3.out ?_; go_big_quiet_on; simp only [Act.put, List.setIfInBounds_toArray, List.set_cons_zero, List.set_cons_succ])
    | go_big_quiet_step ((intro hs'; first
        | (go_at_call 18; exact (HN.out _).mono fun e w' h => ⟨h.1, hs'.trans (h.2.mono hs'.size)⟩)
        | rfl)))
  refine wpQuiet_nil ?_
  intro w2 hs2
  have HB2 := Lib.hid (HB.out.trans (hs2.mono HB.out.size))
  clear hs2 HX HB HC0 HC1 HC2 HC3 HN
  go_wp2_with fail
  refine (list_any (some ⟨w2.heap.size, 0, none⟩) 4 [numB k.toNat, d.key, d.val, txt d.ref] _ (at_four9 w2 _ _ _ _) (by simp) (by have := HLEN.out; rw [draftB, HK.out] at this; omega)).mono ?_
  rintro e w3 ⟨rfl, hb⟩
  have HB3 := Lib.hid (HB2.out.trans (((Below.refl _ w2).alloc (Nat.le_refl _) _).trans (hb.mono (by simp)) |>.mono HB2.out.size))
  clear hb HB2
  go_wp2_with fail
  go_ret
  exact ⟨by rw [draftB, HK.out]; rfl, HB3.out⟩
end Go.Proofs.YthgfpojfnhkckaaDoor
