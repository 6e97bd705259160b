/-
  The document's Batch.
-/
import Derived.Test.YthgfpojfnhkckaaDoorOpName
import Derived.Test.YthgfpojfnhkckaaDoorOpRow
namespace Go.Proofs.YthgfpojfnhkckaaDoor
open Go.RowKit Go.BigFrame

set_option maxHeartbeats 4000000 in
set_option maxRecDepth 100000 in
theorem ref_batch (ao : Option Addr) (L : List OpN) (c : Nat) (w : World) (hL : ∀ o ∈ L, o.Fit) (hn : L.length ≤ 10) (hp : OpsAt ao L w) :
    Calls Tryd.prog 14 #[.slice ao L.length c] w fun e w' => e = .returned (.string ⟨(batchB L).toArray⟩) ∧ Below w.heap.size w w' := by
  have HP := Lib.hid hp
  have HO := Lib.hid hL
  have HZO := Lib.hid (show (Tryd.prog.info? 30).bind (·.zero) = some (.agg (opL zeroO none 0).toArray) by kernel_rfl)
  have HLEN := Lib.hid (show (batchB L).length ≤ 45000 from batchB_le (fun o ho => by
    have h := hL o ho
    exact ⟨by have := h.d.high; omega, by have := h.ahigh; omega, by have := h.dhigh; omega, h.d.key, h.d.val, h.ok, h.many⟩) hn)
  obtain ⟨n, hnn⟩ : ∃ n, L.length = n := ⟨_, rfl⟩
  have HNN := Shut.mk hnn
  rw [hnn] at hn ⊢
  clear hnn hp hL
  go_enter Tryd.func14, Tryd.ntmps14
  go_wp2_with fail
  go_loopw [3, 8] (fun v i wr => ∃ k : Nat, k ≤ n ∧ i = .int .i64 k ∧ OwnS w.heap.size v ((L.take k).map opB) wr ∧ Below w.heap.size w wr) (fun _ i _ => n - (intOf i).toNat)
  case atStart => exact ⟨0, Nat.zero_le _, rfl, OwnS.nil _ _, Below.refl _ _⟩
  case round =>
    obtain ⟨k, hk, rfl, ho, hb⟩ := hrel
    have HOW := Lib.hid ho
    have HB := Lib.hid hb
    have HPW := Lib.hid (HP.out.below hb)
    clear ho hb
    by_cases hlt : k < n
    · obtain ⟨y, hy⟩ : ∃ y, L[k]? = some y := ⟨_, List.getElem?_eq_getElem (by rw [HNN.out]; exact hlt)⟩
      have hyk : L[k]'(by rw [HNN.out]; exact hlt) = y := by
        rw [List.getElem?_eq_getElem (by rw [HNN.out]; exact hlt)] at hy
        exact Option.some.inj hy
      have HNX := Shut.mk (show (L.take (k + 1)).map opB = (L.take k).map opB ++ [opB y] by rw [List.take_succ_eq_append_getElem (by rw [HNN.out]; exact hlt), hyk, List.map_append]; rfl)
      have HFY := Lib.hid (HO.out y (List.mem_of_getElem? hy))
      obtain ⟨b, ob, rfl, hbl, pa, pc, hr, hia⟩ := HPW.out.get hy
      have HR := Lib.hid hr
      have HIA := Lib.hid hia
      have HSO := Lib.hid (show (Tryd.prog.info? 30).map (·.size) = some (opL y pa pc).length by rw [opL_len HFY.out.ok.ref.1]; exact Tryd.sizeO)
      have HSV := Lib.hid (show (Tryd.prog.info? 30).map (·.size) = some (opV y pa pc).size by rw [opV_size HFY.out.ok.ref.1]; exact Tryd.sizeO)
      have HSZ := Lib.hid (show (opV zeroO none 0).size = (opV y pa pc).size by rw [opV_size HFY.out.ok.ref.1]; rfl)
      clear hy hyk hr hia hbl
      go_wp2_with (first
        | (refine wpList_load_mid rfl 30 _ rfl b (ob + k * 38) rfl _ _ HR.out Tryd.underlying30 rfl HSO.out ?_)
        | (refine wpList_alloc_of rfl 30 rfl (opL zeroO none 0) HZO.out ?_)
        | (refine wpList_store_cells rfl 30 _ _ rfl rfl wr.heap.size (opV zeroO none 0) (opV y pa pc) 30 rfl rfl (heap_alloc_new wr _) HSV.out HSZ.out (opV_all y pa pc) ?_))
      intro w4 hc hb
      have hb4 : Below wr.heap.size wr w4 := But.toBelow ((Below.refl _ wr).alloc (Nat.le_refl _) _) hb.out (Nat.le_refl _) (by rw [World.size_alloc]; exact Nat.le_succ _)
      have HC4 := Lib.hid hc.out
      have HB4 := Lib.hid (HB.out.trans (hb4.mono HB.out.size))
      have HO4 := Lib.hid (HOW.out.below hb4)
      have HIA4 := Lib.hid (HIA.out.below hb4)
      clear hc hb hb4 HB HOW HIA HR
      have HTX := Lib.hid (ref_text9 y pa pc w4 HFY.out HIA4.out)
      obtain ⟨T, hT⟩ : ∃ T, opB y = T := ⟨_, rfl⟩
      rw [hT] at HTX HNX
      clear hT
      go_wp2_with (refine wpList_load_cells rfl 30 _ rfl wr.heap.size (opV y pa pc) 30 _ rfl HC4.out Tryd.underlying30 rfl HSV.out ?_)
      refine HTX.out.mono ?_
      rintro e w5 ⟨rfl, hb⟩
      have HB5 := Lib.hid (HB4.out.trans (hb.mono HB4.out.size))
      have HO5 := Lib.hid (HO4.out.below hb)
      clear hb HB4 HO4 HC4 HIA4 HTX
      have HLM := Lib.hid (show ((L.take k).map opB).length + [T].length ≤ 8796093022208 by rw [List.length_map, List.length_take]; simp; omega)
      obtain ⟨R, hR⟩ : ∃ R, (L.take k).map opB = R := ⟨_, rfl⟩
      rw [hR] at HO5 HLM HNX
      clear hR
      go_wp2_with (at_builtin; refine wpList_append_texts rfl _ _ rfl w.heap.size u3 R [T] (some ⟨w5.heap.size, 0, none⟩) 1 rfl (HO5.out.below ((Below.refl _ _).alloc (Nat.le_refl _) _)) rfl (at_one9 w5 T) (fun h => by cases h) HLM.out (Nat.le_trans HB5.out.size (by rw [World.size_alloc]; exact Nat.le_succ _)) ?_)
      intro v6 w6 ho6 hb6
      have HB6 := Lib.hid (show Below w.heap.size w w6 from (HB5.out.alloc HB5.out.size _).trans hb6.out)
      clear hb6
      go_wp2_with fail
      exact ⟨⟨k + 1, by omega, by go_num, by rw [HNX.out]; exact ho6.out, HB6.out⟩, by simp [intOf]; omega⟩
    · obtain rfl : k = n := by omega
      have HFL := Shut.mk (show (L.take k).map opB = L.map opB by rw [List.take_of_length_le (by rw [HNN.out]; exact Nat.le_refl _)])
      obtain ⟨al, cl, rfl⟩ := HOW.out.form
      have HOF := Lib.hid (show StrsAt al (L.map opB) wr by
        have h := strsAt_own HOW.out
        rw [HFL.out] at h
        exact h)
      have HLN := Shut.mk (show ((L.take k).map opB).length = k by rw [HFL.out, List.length_map, HNN.out])
      have HLF := Lib.hid (rlistref_any al cl (L.map opB) wr HOF.out (by rw [List.length_map, HNN.out]; omega) (by have := HLEN.out; rw [batchB] at this; omega))
      rw [List.length_map, HNN.out] at HLF
      rw [HLN.out]
      go_wp2_with fail
      refine HLF.out.mono ?_
      rintro e w5 ⟨rfl, hb⟩
      have HB5 := Lib.hid (HB.out.trans (hb.mono HB.out.size))
      clear hb
      go_wp2_with fail
      go_ret
      exact ⟨rfl, HB5.out⟩
end Go.Proofs.YthgfpojfnhkckaaDoor
