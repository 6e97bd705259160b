/-
  The document's Of, whole: its answer is the digest as plain mathematics says it.
-/
import Derived.Test.YthgfpojfnhkckaaDoorOfF
import Derived.Test.YthgfpojfnhkckaaDoorOfG
import Derived.Test.YthgfpojfnhkckaaDoorBlocks
import Derived.Great.BuildSlice
import Derived.Laws.Rows
import Derived.Laws.CopyOwn
namespace Go.Proofs.YthgfpojfnhkckaaDoor
open Go.RowKit


set_option maxHeartbeats 4000000 in
set_option maxRecDepth 100000 in
theorem of_any (s : List UInt8) (w : World) (hm : s.length ≤ 140737488350000) :
    Calls Tryd.prog 33 #[.string ⟨s.toArray⟩] w fun e w' => e = .returned (.agg (nums .u8 (shaN s)).toArray) ∧ Below w.heap.size w w' := by
  obtain ⟨i0, hi, hz0, hz1, hz2⟩ := info_parts Tryd.infoU8
  go_enter Tryd.func33, Tryd.ntmps33
  go_wp2_with fail
  refine (known_any _).mono ?_
  rintro e w1 ⟨rfl, h1, h2, hb⟩
  have HR := Lib.hid ((hb.block w.heap.size (by simp)).trans (heap_alloc_new w _))
  have HB := Lib.hid (((Below.refl w.heap.size w).alloc (Nat.le_refl _) _).trans (hb.mono (by simp)))
  simp at h1 h2
  have H1 := Lib.hid h1
  have H2 := Lib.hid h2
  clear h1 h2 hb
  go_wp2_with fail
  obtain ⟨g, cap, w2, hrun, ho, hb⟩ := conv_bytes s w1 (by unfold maxLen; omega)
  rw [hrun]
  simp only [Result.andThen]
  rw [Oper.upon_value]
  have HO := Lib.hid ho
  have HB2 := Lib.hid hb
  clear hrun ho hb
  go_wp2_with (at_builtin; refine wpList_append_tail rfl _ _ 41 rfl w1.heap.size 5 i0 (.int .u8 0) 1 .u8 Tryd.underlying41 hi hz0 hz1 hz2 rfl _ _ rfl (HO.out.alloc _) ⟨w2.heap.size, 0, none⟩ 1 128 rfl (cell_one_new _ _ _) ?c3 ?c4 ?c5 ?_)
  case c3 => rw [byteNs_len]; unfold maxLen; omega
  case c4 => rw [byteNs_len]; omega
  case c5 => have := HB2.out.size; simp; omega
  intro v3 w3 ho hgrow _
  have HB3 := Lib.hid (tail_pushed HB2.out HB2.out.size HO.out hgrow)
  have HO3 := Lib.hid (show OwnT w1.heap.size 5 .u8 v3 (zerosL s 0) w3 by unfold zerosL; rw [List.replicate_zero, List.append_nil]; exact ho)
  clear HO HB2 ho hgrow
  go_wp2_with fail
  refine wp_ends (of_loop1 hm HO3 HB3 _ (Lib.hid ?_))
  rintro v4 w4 ⟨ho, hb⟩
  intros
  clear HO3 HB3
  have HO3 := Lib.hid ho
  have HB3 := Lib.hid hb
  clear ho hb
  have hz : zerosN s.length ≤ 63 := by unfold zerosN; omega
  have HN := Lib.hid (padN_split s)
  obtain ⟨z, hzn⟩ : ∃ z, z = zerosN s.length := ⟨_, rfl⟩
  rw [← hzn] at hz HN HO3
  obtain ⟨N, hN⟩ : ∃ N, N = s.length * 8 := ⟨_, rfl⟩
  rw [← hN] at HN
  have HNN := Lib.hid (show N < 18446744073709551616 by omega)
  have hN2 : (s.length : Int) * 8 = (N : Int) := by omega
  clear hzn hN
  go_wp2_with fail
  clear hN2
  refine wp_ends (of_loop2 hm hz HNN HO3 HB3 _ (Lib.hid ?_))
  rintro v5 w5 ⟨ho, hb⟩
  intros
  rw [← HN.out] at ho
  clear HO3 HB3 HN HNN hz
  have hpl := padN_mod s
  have hlt2 := padN_lt s
  have hpl2 := padN_len s
  have hz : zerosN s.length ≤ 63 := by unfold zerosN; omega
  have HP := Lib.hid hlt2
  have HPL := Lib.hid hpl
  have HF := Lib.hid (show outN (blocks (padN s) ((padN s).length / 64)).list = shaN s from rfl)
  generalize padN s = p at ho HP HPL hpl2 HF
  have hpl3 : p.length ≤ 140737488350100 := by omega
  clear hlt2 hpl hpl2 hz
  obtain ⟨g3, cap3, rfl⟩ := ho.form
  have hr := (H2.out.lt (w.heap.size + 1 + 1) rfl).2
  have HST := Lib.hid (show OfSt w (.slice (some ⟨g3, 0, none⟩) p.length cap3) p (blocks p 0) w5 from
    ⟨H1.out.below hb, H2.out.below hb, ho.mono (by omega), (hb.block _ (by omega)).trans HR.out, HB.out.trans (hb.mono HB.out.size)⟩)
  clear H1 H2 HR HB hr ho hb
  go_wp2_with fail
  refine wp_ends (of_loop3 hpl3 HPL HP HST _ (Lib.hid ?_))
  rintro w6 hst
  intros
  clear HST
  have hsz := hst.bel.size
  have hl := (hst.h.lt _ rfl).2
  have HST := Lib.hid hst
  clear hst
  go_wp2_with fail
  refine wp_ends (of_loop9 (h0 := blocks p (p.length / 64)) (BH := w.heap.size + 1) (db := w6.heap.size) ?hne (Lib.hid (blocks_ok _ _)) (Lib.hid (HST.out.h.alloc _)) (Lib.hid ?hd) _ (Lib.hid ?_))
  case hne => omega
  case hd => exact (heap_alloc_new w6 _).trans rfl
  rintro w7 ⟨hd, hb⟩
  intros
  rw [HF.out] at hd
  have HD := Lib.hid hd
  have hr1 := (hb.block w.heap.size (by simp; omega) (by omega)).trans ((heap_alloc_old w6 _ (by omega)).trans HST.out.r)
  have HB := Lib.hid (But.toBelow (HST.out.bel.alloc hsz _) hb hsz (by simp; omega))
  have HR1 := Lib.hid hr1
  clear hb hd hr1 HST
  have hI : (Tryd.prog.info? 25).map (·.size) = some (nums .u8 (shaN s)).toArray.size := by rw [nums_size, shaN_len]; exact Tryd.infoId
  have HI := Lib.hid hI
  have HL := Lib.hid (show (nums .u8 (List.replicate 32 0)).toArray.size = (nums .u8 (shaN s)).toArray.size by rw [nums_size, nums_size, shaN_len, List.length_replicate])
  clear hI
  go_wp2_with (first | (refine wpList_load_row rfl 25 _ rfl w6.heap.size rfl 25 _ _ _ HD.out Tryd.underlying25 rfl HI.out ?_) | (refine wpList_store_rowTo rfl 25 _ _ rfl rfl w.heap.size (nums .u8 (shaN s)).toArray rfl rfl 25 _ HR1.out HI.out HL.out (nums_all _ _) ?_))
  exact bodyPost_ret (results_cell_row rfl _ _ w.heap.size 25 _ (0, 0) _ rfl (setRow_heap _ _ _ _ _ _ HR1.out) Tryd.underlying25 rfl HI.out) rfl ⟨rfl, below_setRow HB.out (Nat.le_refl _) _⟩
end Go.Proofs.YthgfpojfnhkckaaDoor
