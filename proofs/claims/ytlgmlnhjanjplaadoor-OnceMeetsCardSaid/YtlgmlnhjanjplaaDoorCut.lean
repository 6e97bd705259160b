/-
  Cut, the developers' and the document's: the first sixteen bytes.
-/
import Derived.Test.YtlgmlnhjanjplaaDoorCopy
import Derived.StillTailTactics
import Derived.Deep.Cut
namespace Go.Proofs.YtlgmlnhjanjplaaDoor
open Go.RowKit

theorem Tryd.infoE : (Tryd.prog.info? 24).map (fun i => i.size) = some 16 := by kernel_rfl
theorem three_new (w : World) (l m n : List Nat) (t u v : TypeId) : Blk w.heap.size t .u8 l (((w.alloc (.cells (nums .u8 l).toArray t)).alloc (.cells (nums .u8 m).toArray u)).alloc (.cells (nums .u8 n).toArray v)) ∧
    Blk (w.heap.size + 1) u .u8 m (((w.alloc (.cells (nums .u8 l).toArray t)).alloc (.cells (nums .u8 m).toArray u)).alloc (.cells (nums .u8 n).toArray v)) ∧
    Blk (w.heap.size + 2) v .u8 n (((w.alloc (.cells (nums .u8 l).toArray t)).alloc (.cells (nums .u8 m).toArray u)).alloc (.cells (nums .u8 n).toArray v)) ∧
    Below w.heap.size w (((w.alloc (.cells (nums .u8 l).toArray t)).alloc (.cells (nums .u8 m).toArray u)).alloc (.cells (nums .u8 n).toArray v)) := by
  have h1 : Blk w.heap.size t .u8 l (w.alloc (.cells (nums .u8 l).toArray t)) := heap_alloc_new w _
  have h2 : Blk (w.heap.size + 1) u .u8 m ((w.alloc (.cells (nums .u8 l).toArray t)).alloc (.cells (nums .u8 m).toArray u)) := by
    have h := heap_alloc_new (w.alloc (.cells (nums .u8 l).toArray t)) (.cells (nums .u8 m).toArray u)
    rw [World.size_alloc] at h
    exact h
  have h3 : Blk (w.heap.size + 2) v .u8 n (((w.alloc (.cells (nums .u8 l).toArray t)).alloc (.cells (nums .u8 m).toArray u)).alloc (.cells (nums .u8 n).toArray v)) := by
    have h := heap_alloc_new ((w.alloc (.cells (nums .u8 l).toArray t)).alloc (.cells (nums .u8 m).toArray u)) (.cells (nums .u8 n).toArray v)
    rw [World.size_alloc, World.size_alloc] at h
    exact h
  exact ⟨(h1.alloc _).alloc _, h2.alloc _, h3, (((Below.refl _ w).alloc (Nat.le_refl _) _).alloc (by simp) _).alloc (by simp; omega) _⟩
/-- The first k of sixteen bytes. -/
def cutP (l : List Nat) (k : Nat) : List Nat := l.take k ++ List.replicate (16 - k) 0
theorem cutP_len {l : List Nat} {k : Nat} (hl : 16 ≤ l.length) (hk : k ≤ 16) : (cutP l k).length = 16 := by
  simp [cutP]
  omega
theorem cutP_full (l : List Nat) : cutP l 16 = l.take 16 := by simp [cutP]
theorem cutP_set {l : List Nat} {k : Nat} (hl : 16 ≤ l.length) (hk : k < 16) : (cutP l k).set k (l.getD k 0) = cutP l (k + 1) := by
  unfold cutP
  have hk2 : (l.take k).length = k := by simp; omega
  rw [List.set_append_right _ _ (by omega), hk2, Nat.sub_self, show 16 - k = (16 - (k + 1)) + 1 by omega, List.replicate_succ, List.set_cons_zero, List.take_succ_eq_append_getElem (by omega), List.append_assoc, List.getD_eq_getElem?_getD, List.getElem?_eq_getElem (by omega)]
  rfl

set_option maxHeartbeats 4000000 in
set_option maxRecDepth 100000 in
theorem ref_cut (l : List Nat) (w : World) (hl : l.length = 32) :
    Calls Tryd.prog 22 #[.agg (nums .u8 l).toArray] w fun e w' => e = .returned (.agg (nums .u8 (l.take 16)).toArray) ∧ Below w.heap.size w w' := by
  have HL := Lib.hid hl
  clear hl
  go_enter Tryd.func22, Tryd.ntmps22
  go_upto_region 2 with (fail)
  change Code.wp _ _ _ _ (((w.alloc (.cells (nums .u8 l).toArray 44)).alloc (.cells (nums .u8 (List.replicate 16 0)).toArray 24)).alloc (.cells (nums .u8 (List.replicate 16 0)).toArray 24))
  obtain ⟨w1, hw1⟩ : ∃ x, x = ((w.alloc (.cells (nums .u8 l).toArray 44)).alloc (.cells (nums .u8 (List.replicate 16 0)).toArray 24)).alloc (.cells (nums .u8 (List.replicate 16 0)).toArray 24) := ⟨_, rfl⟩
  rw [← hw1]
  have h3 : Blk w.heap.size 44 .u8 l w1 ∧ Blk (w.heap.size + 1) 24 .u8 (List.replicate 16 0) w1 ∧ Blk (w.heap.size + 2) 24 .u8 (List.replicate 16 0) w1 ∧ Below w.heap.size w w1 := by
    rw [hw1]
    exact three_new w _ _ _ _ _ _
  obtain ⟨hd, hr, hc, hb⟩ := h3
  have HD := Lib.hid hd
  have HR := Lib.hid hr
  have HC := Lib.hid hc
  have HB := Lib.hid hb
  clear hw1 hd hr hc hb
  go_wp2_with fail
  go_loopw [5] (fun i wq => ∃ k : Nat, k ≤ 16 ∧ i = .int .i64 k ∧ Blk (w.heap.size + 2) 24 .u8 (cutP l k) wq ∧ But (w.heap.size + 2) w1 wq) (fun i _ => 16 - (intOf i).toNat)
  case atStart => exact ⟨0, by omega, rfl, HC.out, But.refl _ _⟩
  case round =>
    clear HC
    obtain ⟨k, hk, rfl, hc, hb⟩ := hrel
    have HC := Lib.hid hc
    have HB1 := Lib.hid hb
    clear hc hb
    by_cases hlk : k < 16
    · have c1 := (HD.out.but HB1.out (by omega)).cell k (by rw [HL.out]; omega)
      have c2 := HC.out.cell k (by rw [cutP_len (by rw [HL.out]; omega) hk]; omega)
      have hf := HC.out.frozen k
      have HS := Lib.hid (HC.out.set k (l.getD k 0))
      rw [cutP_set (by rw [HL.out]; omega) hlk] at HS
      generalize l.getD k 0 = x at c1 HS
      generalize (cutP l k).getD k 0 = y at c2
      have b1 : (k : Int) < 32 := by omega
      have b2 : (k : Int) < 16 := by omega
      go_wp2_with fail
      exact ⟨⟨k + 1, by omega, by go_num, HS.out, HB1.out.setCell _ _⟩, by simp [intOf]; omega⟩
    · obtain rfl : k = 16 := by omega
      rw [show ((16 : Nat) : Int) = 16 from rfl]
      rw [cutP_full] at HC
      have HR1 := Lib.hid (HR.out.but HB1.out (by omega))
      have HBB := Lib.hid (show Below w.heap.size w wr from But.toBelow HB.out HB1.out (by omega) HB.out.size)
      have HI := Lib.hid (show (Tryd.prog.info? 24).map (·.size) = some (l.take 16).length by rw [List.length_take, HL.out]; exact Tryd.infoE)
      have HL2 := Lib.hid (show (List.replicate 16 0).length = (l.take 16).length by rw [List.length_take, HL.out]; rfl)
      go_wp2_with (first | (refine wpList_load_nums rfl 24 _ rfl (w.heap.size + 2) .u8 _ 24 _ rfl HC.out Tryd.underlying24 rfl HI.out ?_) | (refine wpList_store_nums rfl 24 _ _ rfl rfl (w.heap.size + 1) .u8 _ (l.take 16) 24 rfl rfl HR1.out HI.out HL2.out ?_))
      intro w7 hc hb
      have HC7 := Lib.hid (show Blk (w.heap.size + 1) 24 .u8 (l.take 16) w7 from hc.out)
      have HB7 := Lib.hid (show Below w.heap.size w w7 from But.toBelow HBB.out hb.out (by omega) HBB.out.size)
      clear hc hb
      go_wp2_with fail
      exact bodyPost_ret (results_nums rfl _ _ (w.heap.size + 1) .u8 _ 24 _ rfl HC7.out Tryd.underlying24 rfl HI.out) rfl ⟨rfl, HB7.out⟩

set_option maxHeartbeats 4000000 in
set_option maxRecDepth 100000 in
theorem dev_cut (l : List Nat) (w : World) (hl : l.length = 32) :
    Calls Tryd.prog 19 #[.agg (nums .u8 l).toArray] w fun e w' => e = .returned (.agg (nums .u8 (l.take 16)).toArray) ∧ Below w.heap.size w w' := by
  have HL := Lib.hid hl
  clear hl
  go_enter Tryd.func19, Tryd.ntmps19
  go_upto_region 2 with (fail)
  change Code.wp _ _ _ _ (((w.alloc (.cells (nums .u8 l).toArray 44)).alloc (.cells (nums .u8 (List.replicate 16 0)).toArray 24)).alloc (.cells (nums .u8 (List.replicate 16 0)).toArray 24))
  obtain ⟨w1, hw1⟩ : ∃ x, x = ((w.alloc (.cells (nums .u8 l).toArray 44)).alloc (.cells (nums .u8 (List.replicate 16 0)).toArray 24)).alloc (.cells (nums .u8 (List.replicate 16 0)).toArray 24) := ⟨_, rfl⟩
  rw [← hw1]
  have h3 : Blk w.heap.size 44 .u8 l w1 ∧ Blk (w.heap.size + 1) 24 .u8 (List.replicate 16 0) w1 ∧ Blk (w.heap.size + 2) 24 .u8 (List.replicate 16 0) w1 ∧ Below w.heap.size w w1 := by
    rw [hw1]
    exact three_new w _ _ _ _ _ _
  obtain ⟨hd, hr, hc, hb⟩ := h3
  have HD := Lib.hid hd
  have HR := Lib.hid hr
  have HC := Lib.hid hc
  have HB := Lib.hid hb
  clear hw1 hd hr hc hb
  obtain ⟨w2, hw2⟩ : ∃ x, x = w1.drew := ⟨_, rfl⟩
  refine wp_region_still_tail 2 (by kernel_rfl) (by kernel_rfl) ?_
  simp only [List.take_succ_cons, List.take_zero, List.drop_succ_cons, List.drop_zero]
  change wpStill _ _ w1.drew (fun a' => wpList _ _ _ _ a' w1.drew) _ _
  rw [← hw2]
  have HD2 := Lib.hid (show Blk w.heap.size 44 .u8 l w2 by rw [hw2]; exact HD.out)
  have HC2 := Lib.hid (show Blk (w.heap.size + 2) 24 .u8 (List.replicate 16 0) w2 by rw [hw2]; exact HC.out)
  have HR2 := Lib.hid (show Blk (w.heap.size + 1) 24 .u8 (List.replicate 16 0) w2 by rw [hw2]; exact HR.out)
  have HB2 := Lib.hid (show Below w.heap.size w w2 by rw [hw2]; exact HB.out.drew)
  clear hw2 HD HC HR HB
  repeat still_step
  refine wpStill_nil ?_
  refine wpList_copy_splice rfl _ _ 51 51 rfl 5 Tryd.underlying51 (by kernel_rfl) _ _ 16 16 32 32 rfl rfl (w.heap.size + 2) 0 (nums .u8 (List.replicate 16 0)) 24 HC2.out (nums .u8 (l.take 16)) ?hn (fun _ => ⟨rfl, _, rfl, ?hcell⟩) ?hfit (nums_one _ _) (w.heap.size + 2) w2 (Below.refl _ _) (Nat.le_refl _) ?_
  case hn => rw [nums_len, List.length_take, HL.out]; rfl
  case hfit => rw [nums_len, nums_len, List.length_take, HL.out]; decide
  case hcell =>
    intro j v hj
    have hj' : j < 16 := by
      have := (List.getElem?_eq_some_iff.1 hj).1
      rw [nums_len, List.length_take, HL.out] at this
      omega
    have h := HD2.out.cell j (by rw [HL.out]; omega)
    rw [Addr.add_lit, Nat.zero_add, h, ← hj, nums, List.getElem?_map, List.getElem?_take, if_pos hj', List.getD_eq_getElem?_getD, List.getElem?_eq_getElem (by rw [HL.out]; omega)]
    rfl
  intro w3 hc hb
  have hsp : splice (nums .u8 (List.replicate 16 0)) 0 (nums .u8 (l.take 16)) = nums .u8 (l.take 16) := by
    unfold splice
    rw [List.take_zero, List.nil_append, List.drop_of_length_le (by rw [nums_len, nums_len, List.length_take, List.length_replicate, HL.out]; decide), List.append_nil]
  have HC3 := Lib.hid (show Blk (w.heap.size + 2) 24 .u8 (l.take 16) w3 by have h := hc.out; rw [hsp] at h; exact h)
  have HR3 := Lib.hid (show Blk (w.heap.size + 1) 24 .u8 (List.replicate 16 0) w3 from (hb.block _ (by omega)).trans HR2.out)
  have HB3 := Lib.hid (HB2.out.trans (hb.mono (by omega)))
  clear hc hb hsp HC2 HR2 HB2 HD2
  have HI := Lib.hid (show (Tryd.prog.info? 24).map (·.size) = some (l.take 16).length by rw [List.length_take, HL.out]; exact Tryd.infoE)
  have HL2 := Lib.hid (show (List.replicate 16 0).length = (l.take 16).length by rw [List.length_take, HL.out]; rfl)
  go_wp2_with (first | (refine wpList_load_nums rfl 24 _ rfl (w.heap.size + 2) .u8 _ 24 _ rfl HC3.out Tryd.underlying24 rfl HI.out ?_) | (refine wpList_store_nums rfl 24 _ _ rfl rfl (w.heap.size + 1) .u8 _ (l.take 16) 24 rfl rfl HR3.out HI.out HL2.out ?_))
  intro w7 hc hb
  have HC7 := Lib.hid (show Blk (w.heap.size + 1) 24 .u8 (l.take 16) w7 from hc.out)
  have HB7 := Lib.hid (show Below w.heap.size w w7 from But.toBelow HB3.out hb.out (by omega) HB3.out.size)
  clear hc hb
  go_wp2_with fail
  exact bodyPost_ret (results_nums rfl _ _ (w.heap.size + 1) .u8 _ 24 _ rfl HC7.out Tryd.underlying24 rfl HI.out) rfl ⟨rfl, HB7.out⟩
end Go.Proofs.YtlgmlnhjanjplaaDoor
