/-
  The developers' Batch.
-/
import Derived.Test.YthgfpojfnhkckaaDoorOpTxtO
import Derived.Test.YthgfpojfnhkckaaDoorOpRow
namespace Go.Proofs.YthgfpojfnhkckaaDoor
open Go.RowKit Go.BigFrame

/-- The first k texts, the others empty. -/
def partT (L : List OpN) (k : Nat) : List (List UInt8) := (L.take k).map opB ++ List.replicate (L.length - k) []
theorem partT_len {L : List OpN} {k : Nat} (h : k ≤ L.length) : (partT L k).length = L.length := by
  rw [partT, List.length_append, List.length_map, List.length_take, List.length_replicate]
  omega
theorem partT_zero (L : List OpN) : partT L 0 = List.replicate L.length [] := rfl
theorem partT_full (L : List OpN) : partT L L.length = L.map opB := by simp [partT]
theorem partT_set {L : List OpN} {k : Nat} (h : k < L.length) : (partT L k).set k (opB L[k]) = partT L (k + 1) := by
  have hl : ((L.take k).map opB).length = k := by rw [List.length_map, List.length_take]; omega
  rw [partT, partT, List.set_append_right _ _ (by omega), hl, Nat.sub_self, show L.length - k = (L.length - (k + 1)) + 1 by omega, List.replicate_succ, List.set_cons_zero, List.take_succ_eq_append_getElem h, List.map_append, List.append_assoc]
  rfl
theorem strs_set (l : List (List UInt8)) (j : Nat) (t : List UInt8) : strs (l.set j t) = (strs l).set j (.string ⟨t.toArray⟩) := by simp [strs, List.map_set]
theorem OwnS.setT {B g n c : Nat} {l : List (List UInt8)} {w : World} (hn : n = l.length) (h : OwnS B (.slice (some ⟨g, 0, none⟩) n c) l w) (j : Nat) (t : List UInt8) :
    OwnS B (.slice (some ⟨g, 0, none⟩) n c) (l.set j t) (w.setCell ⟨g, j, none⟩ (.string ⟨t.toArray⟩)) := by
  subst hn
  have h1 := (World.ownsRow.stored h j (.string ⟨t.toArray⟩)).1
  unfold OwnS
  rw [List.length_set, strs_set]
  exact h1
theorem OwnS.there {B g n c : Nat} {l : List (List UInt8)} {w : World} (hn : n = l.length) (h : OwnS B (.slice (some ⟨g, 0, none⟩) n c) l w) {j : Nat} (hj : j < n) : ∃ t : List UInt8, w.cell? ⟨g, j, none⟩ = some (.string ⟨t.toArray⟩) ∧ w.frozen? ⟨g, j, none⟩ = false := by
  subst hn
  have h1 := World.ownsRow.cellAt h j (by rw [Nat.mul_one]; exact hj)
  refine ⟨l[j], ?_, World.ownsRow.frozenAt h j⟩
  rw [h1, strs, List.getElem?_map, List.getElem?_eq_getElem hj]
  rfl
theorem madeCells_strs (n : Nat) : (madeCells #[Value.string ⟨#[]⟩] n).toList = strs (List.replicate n []) := by
  rw [strs, List.map_replicate]
  exact toList_madeCells_one _ _
set_option maxHeartbeats 4000000 in
set_option maxRecDepth 100000 in
theorem dev_batch (ao : Option Addr) (L : List OpN) (c : Nat) (w : World) (hL : ∀ o ∈ L, o.Fit) (hn : L.length ≤ 10) (hp : OpsAt ao L w) :
    Calls Tryd.prog 13 #[.slice ao L.length c] w fun e w' => e = .returned (.string ⟨(batchB L).toArray⟩) ∧ Below w.heap.size w w' := by
  obtain ⟨i0, hi2, hz0, hz1, hz2⟩ := info_parts Tryd.infoString
  have HY := Lib.hid hi2
  have HY0 := Lib.hid hz0
  have HY1 := Lib.hid hz1
  have HY2 := Lib.hid hz2
  have HP := Lib.hid hp
  have HO := Lib.hid hL
  have HZO := Lib.hid (show (Tryd.prog.info? 30).bind (·.zero) = some (.agg (opL zeroO none 0).toArray) by kernel_rfl)
  have HLEN := Lib.hid (show (batchB L).length ≤ 45000 from batchB_le (fun o ho => by
    have h := hL o ho
    exact ⟨by have := h.d.high; omega, by have := h.ahigh; omega, by have := h.dhigh; omega, h.d.key, h.d.val, h.ok, h.many⟩) hn)
  obtain ⟨n, hnn⟩ : ∃ n, L.length = n := ⟨_, rfl⟩
  have HNN := Shut.mk hnn
  rw [hnn] at hn ⊢
  clear hnn hp hL hi2 hz0 hz1 hz2
  go_enter Tryd.func13, Tryd.ntmps13
  go_wp2_with (at_make; refine wpList_make_full _ rfl _ _ 43 rfl w.heap.size 9 i0 (.string ⟨#[]⟩) 1 Tryd.underlying43 HY.out HY0.out HY1.out .i64 .i64 _ _ n rfl rfl rfl rfl (by rw [HY2.out]; omega) (by unfold maxLen; omega) (Nat.le_refl _) ?_)
  intro w2 ho hgrow
  have hb2 : Below w.heap.size w w2 := (Below.refl w.heap.size w).grown hgrow (Nat.le_refl _) (by intro g hg; cases hg)
  have HOW := Lib.hid (show OwnS w.heap.size (.slice (some ⟨w.heap.size, 0, none⟩) n n) (partT L 0) w2 by rw [partT_zero, HNN.out, OwnS, List.length_replicate, ← madeCells_strs]; exact ho)
  have HB2 := Lib.hid hb2
  have HWL := Lib.hid (show w.heap.size < w2.heap.size from (World.ownsRow.lt ho w.heap.size rfl).2)
  clear ho hgrow hb2
  go_wp2_with fail
  go_loopw [11] (fun i wr => ∃ k : Nat, k ≤ n ∧ i = .int .i64 k ∧ OwnS w.heap.size (.slice (some ⟨w.heap.size, 0, none⟩) n n) (partT L k) wr ∧ Below w.heap.size w wr) (fun i _ => n - (intOf i).toNat)
  case atStart => exact ⟨0, Nat.zero_le _, rfl, HOW.out, HB2.out⟩
  case round =>
    clear HOW HB2
    obtain ⟨k, hk, rfl, ho, hb⟩ := hrel
    have HOW := Lib.hid ho
    have HB := Lib.hid hb
    have HPW := Lib.hid (HP.out.below hb)
    clear ho hb
    by_cases hlt : k < n
    · obtain ⟨y, hy⟩ : ∃ y, L[k]? = some y := ⟨_, List.getElem?_eq_getElem (by rw [HNN.out]; exact hlt)⟩
      have hyk : L[k]'(by rw [HNN.out]; exact hlt) = y := by
        rw [List.getElem?_eq_getElem (by rw [HNN.out]; exact hlt)] at hy
        exact Option.some.inj hy
      have HNX := Shut.mk (show (partT L k).set k (opB y) = partT L (k + 1) by rw [← hyk]; exact partT_set (by rw [HNN.out]; exact hlt))
      have HFY := Lib.hid (HO.out y (List.mem_of_getElem? hy))
      obtain ⟨b, ob, rfl, hbl, pa, pc, hr, hia⟩ := HPW.out.get hy
      have HR := Lib.hid hr
      have HIA := Lib.hid hia
      have HSO := Lib.hid (show (Tryd.prog.info? 30).map (·.size) = some (opL y pa pc).length by rw [opL_len HFY.out.ok.ref.1]; exact Tryd.sizeO)
      have HSV := Lib.hid (show (Tryd.prog.info? 30).map (·.size) = some (opV y pa pc).size by rw [opV_size HFY.out.ok.ref.1]; exact Tryd.sizeO)
      have HSZ := Lib.hid (show (opV zeroO none 0).size = (opV y pa pc).size by rw [opV_size HFY.out.ok.ref.1]; rfl)
      clear hy hyk hr hia hbl
      go_wp2_with (first
        | (refine wpList_load_mid rfl 30 _ rfl b (ob + k * 38) rfl _ _ HR.out Tryd.underlying30 rfl HSO.out ?_)
        | (refine wpList_alloc_of rfl 30 rfl (opL zeroO none 0) HZO.out ?_)
        | (refine wpList_store_cells rfl 30 _ _ rfl rfl wr.heap.size (opV zeroO none 0) (opV y pa pc) 30 rfl rfl (heap_alloc_new wr _) HSV.out HSZ.out (opV_all y pa pc) ?_))
      intro w4 hc hb
      have hb4 : Below wr.heap.size wr w4 := But.toBelow ((Below.refl _ wr).alloc (Nat.le_refl _) _) hb.out (Nat.le_refl _) (by rw [World.size_alloc]; exact Nat.le_succ _)
      have HC4 := Lib.hid hc.out
      have HB4 := Lib.hid (HB.out.trans (hb4.mono HB.out.size))
      have HO4 := Lib.hid (HOW.out.below hb4)
      have HIA4 := Lib.hid (HIA.out.below hb4)
      clear hc hb hb4 HB HOW HIA HR
      have HTX := Lib.hid (dev_text9 y pa pc w4 HFY.out HIA4.out)
      obtain ⟨T, hT⟩ : ∃ T, opB y = T := ⟨_, rfl⟩
      rw [hT] at HTX HNX
      clear hT
      go_wp2_with (refine wpList_load_cells rfl 30 _ rfl wr.heap.size (opV y pa pc) 30 _ rfl HC4.out Tryd.underlying30 rfl HSV.out ?_)
      refine HTX.out.mono ?_
      rintro e w5 ⟨rfl, hb⟩
      have HB5 := Lib.hid (HB4.out.trans (hb.mono HB4.out.size))
      have HO5 := Lib.hid (HO4.out.below hb)
      clear hb HB4 HO4 HC4 HIA4 HTX
      obtain ⟨t0, ht0, hf0⟩ := HO5.out.there (by rw [partT_len (by rw [HNN.out]; omega), HNN.out]) hlt
      go_wp2_with fail
      exact ⟨⟨k + 1, by omega, by go_num, by rw [← HNX.out]; exact HO5.out.setT (by rw [partT_len (by rw [HNN.out]; omega), HNN.out]) k T, below_set HB5.out (Nat.le_refl _) _ _⟩, by simp [intOf]; omega⟩
    · obtain rfl : k = n := by omega
      have HOF := Lib.hid (show StrsAt (some ⟨w.heap.size, 0, none⟩) (L.map opB) wr by
        have h := HOW.out
        rw [← HNN.out, partT_full] at h
        exact strsAt_own (B := w.heap.size) (c := L.length) (by rw [List.length_map]; exact h))
      have HLF := Lib.hid (list_any (some ⟨w.heap.size, 0, none⟩) k (L.map opB) wr HOF.out (by rw [List.length_map, HNN.out]; omega) (by have := HLEN.out; rw [batchB] at this; omega))
      rw [List.length_map, HNN.out] at HLF
      go_wp2_with fail
      refine HLF.out.mono ?_
      rintro e w5 ⟨rfl, hb⟩
      have HB5 := Lib.hid (HB.out.trans (hb.mono HB.out.size))
      clear hb
      go_wp2_with fail
      go_ret
      exact ⟨rfl, HB5.out⟩
end Go.Proofs.YthgfpojfnhkckaaDoor
