/-
  The document's disk: Sync.
-/
import Derived.Test.YtmkelboncapkpaaDiskWr
namespace Go.Proofs.Ytmkelboncapkpaa
open Go.RowKit Go.BigFrame

theorem actS_keep {s : DS} (h : failS s = false) : (actS s).pend = s.pend ∧ (actS s).safe = s.safe ∧ (actS s).off = s.off := by
  have h1 : ¬ s.fuse = 1 := by simpa [failS] using h
  by_cases h0 : s.fuse = 0
  · rw [actS_zero h0]; exact ⟨rfl, rfl, rfl⟩
  · rw [actS_more h0 h1]; exact ⟨rfl, rfl, rfl⟩

set_option maxHeartbeats 4000000 in
set_option maxRecDepth 100000 in
theorem ref_sync (g : Nat) (vS vA vD : Value) (s : DS) (w : World) (h : RefAt g vS vA vD s w) (ha : s.acts ≤ 1000000) (hf : s.fuse ≤ 9223372036854775807) (hk : s.keep < 18446744073709551616) (hp : s.pend.length ≤ 1000000) (hok : s.Ok) :
    Calls Try.prog 27 #[.pointer (some ⟨g, 0, none⟩)] w fun e w' => e = .returned (.int .i64 (syncE s : Nat)) ∧ (∃ vA' vD', RefAt g vS vA' vD' (syncS s) w' ∧ Turn (refO g vS vA vD) (refO g vS vA' vD') w w') := by
  have c3 := h.field 3
  simp only [refV, List.getElem?_toArray, List.getElem?_cons_zero, List.getElem?_cons_succ] at c3
  cases hof : s.off with
  | true =>
    have HE := Shut.mk (show syncE s = 7 by rw [syncE, if_pos (.inl hof)])
    have HS := Shut.mk (show syncS s = s by rw [syncS, if_pos hof])
    rw [hof] at c3
    have H := Lib.hid h
    clear h hp hok hof hk hf ha
    go_enter Try.func27, Try.ntmps27
    go_wp2_with fail
    go_ret
    exact ⟨by rw [HE.out]; rfl, vA, vD, by rw [HS.out]; exact H.out, Turn.refl _ _⟩
  | false =>
    rw [hof] at c3
    have HAC := Lib.hid (ref_act g vS vA vD s w h ha hf hk hp hok)
    cases hfs : failS s with
    | true =>
      have HE := Shut.mk (show syncE s = 7 by rw [syncE, if_pos (.inr hfs)])
      have HS := Shut.mk (show syncS s = actS s by rw [syncS, if_neg (by rw [hof]; decide), if_pos hfs])
      rw [hfs] at HAC
      clear h hp hok hof hk hf ha hfs
      go_enter Try.func27, Try.ntmps27
      go_wp2_with fail
      refine HAC.out.mono ?_
      rintro e w1 ⟨rfl, vA', vD', hr, ht⟩
      have HR := Lib.hid hr
      have HT := Lib.hid ht
      clear hr ht HAC
      go_wp2_with fail
      go_ret
      exact ⟨by rw [HE.out]; rfl, vA', vD', by rw [HS.out]; exact HR.out, HT.out⟩
    | false =>
      have HE := Shut.mk (show syncE s = 0 by rw [syncE, if_neg (by rw [hof, hfs]; decide)])
      obtain ⟨k1, k2, k3⟩ := actS_keep hfs
      have HS := Shut.mk (show syncS s = { actS s with safe := applyL (actS s).pend (actS s).safe, pend := [] } by rw [syncS, if_neg (by rw [hof]; decide), if_neg (by rw [hfs]; decide), k1, k2])
      rw [hfs] at HAC
      have hokt := hok.act
      rw [← k1] at hp
      obtain ⟨t, ht⟩ : ∃ t, actS s = t := ⟨_, rfl⟩
      rw [ht] at HAC HS hokt hp
      clear h hok hof hk hf ha hfs k1 k2 k3 ht
      go_enter Try.func27, Try.ntmps27
      go_wp2_with fail
      refine HAC.out.mono ?_
      rintro e w1 ⟨rfl, vA1, vD1, hr, ht⟩
      have HT := Lib.hid ht
      have c1 := hr.field 1
      simp only [refV, List.getElem?_toArray, List.getElem?_cons_zero, List.getElem?_cons_succ] at c1
      obtain ⟨aa, ca, hva⟩ := hr.at'.form
      rw [nums_len, List.length_map] at hva
      rw [hva] at c1
      have HVA := Shut.mk hva
      have H := Lib.hid hr
      have HOK := Lib.hid hokt
      obtain ⟨m, hm⟩ : ∃ m, t.pend.length = m := ⟨_, rfl⟩
      have HM := Shut.mk hm
      rw [hm] at c1 hp HVA
      have H0 := Shut.mk (show applyL (t.pend.take 0) t.safe = t.safe by simp [applyL])
      have HEE := Shut.mk (show syncS s = { t with safe := applyL (t.pend.take m) t.safe, pend := [] } by rw [HS.out, ← hm, List.take_length])
      clear hr ht hva hokt hm HAC HS c3
      go_wp2_with fail
      go_loopw [18] (fun i wq => ∃ k : Nat, k ≤ m ∧ i = .int .i64 k ∧ RefAt g vS vA1 vD1 { t with safe := applyL (t.pend.take k) t.safe } wq ∧ Only (refO g vS vA1 vD1) w1 wq) (fun i _ => m - (intOf i).toNat)
      case atStart => exact ⟨0, by omega, rfl, by rw [H0.out]; exact H.out, Only.refl _ _⟩
      case round =>
        clear H c1
        obtain ⟨k, hkm, rfl, hr, ho⟩ := hrel
        have HR := Lib.hid hr
        have HO := Lib.hid ho
        clear hr ho
        by_cases hlk : k < m
        · have hlk2 : (k : Int) < (m : Int) := by omega
          obtain ⟨ga, ca', hva2⟩ := HR.out.at'.formB (by rw [nums_len, List.length_map, HM.out]; omega)
          obtain ⟨gd, cd, hvd⟩ := HR.out.data.formB (by rw [strs_length, List.length_map, HM.out]; omega)
          have hkp : k < t.pend.length := by rw [HM.out]; exact hlk
          have hpk := HOK.out.pend _ (List.getElem_mem hkp)
          obtain ⟨gs, cs, hvs⟩ := HR.out.safe.formB (by rw [strs_length, applyL_len]; omega)
          rw [nums_len, List.length_map, HM.out] at hva2
          rw [strs_length, List.length_map, HM.out] at hvd
          rw [strs_length, applyL_len] at hvs
          obtain rfl : aa = some ⟨ga, 0, none⟩ := by rw [HVA.out] at hva2; injection hva2
          obtain rfl : ca = ca' := by rw [HVA.out] at hva2; injection hva2
          subst hvs hvd hva2
          have ea := HR.out.at'.get (by rw [nums_len, List.length_map, HM.out]) (nums_get (k := .i64) (j := k) (by rw [List.length_map]; exact hkp))
          have hT := applyL_take t.pend t.safe k hkp
          rw [List.getD_eq_getElem?_getD, List.getElem?_map, List.getElem?_eq_getElem hkp] at ea
          simp only [Option.map_some, Option.getD_some] at ea
          obtain ⟨a, hae⟩ : ∃ a, (t.pend[k]).1 = a := ⟨_, rfl⟩
          obtain ⟨d, hde⟩ : ∃ d, (t.pend[k]).2 = d := ⟨_, rfl⟩
          rw [hae, hde] at hT
          rw [hae] at ea hpk
          have HTK := Shut.mk hT
          have han : (a : Int) < (t.safe.length : Int) := by have := hpk.1; omega
          have HED := Lib.hid (fun (w' : World) (h : RefAt g (.slice (some ⟨gs, 0, none⟩) t.safe.length cs) (.slice (some ⟨ga, 0, none⟩) m ca) (.slice (some ⟨gd, 0, none⟩) m cd) { t with safe := applyL (t.pend.take k) t.safe } w') => show w'.cell? ⟨gd, k, none⟩ = some (.string ⟨d.toArray⟩) by
            have ed := h.data.get (by rw [strs_length, List.length_map, HM.out]) (strs_get (j := k) (by rw [List.length_map]; exact hkp))
            rw [List.getD_eq_getElem?_getD, List.getElem?_map, List.getElem?_eq_getElem hkp] at ed
            simp only [Option.map_some, Option.getD_some] at ed
            rw [hde] at ed
            exact ed)
          clear hT hae hkp hpk hde
          go_upto_region 6 with (fail)
          have HQ0 := Lib.hid (fun (w' : World) (h : Below wr.heap.size wr w') => (HR.out.only (Only.of (O := fun _ => False) h) (fun _ _ => id)))
          have HC0 := Lib.hid (fun (w' : World) (h : Below wr.heap.size wr w') => show w'.cell? ⟨g, 0, none⟩ = some (.slice (some ⟨gs, 0, none⟩) t.safe.length cs) from (HQ0.out w' h).field 0)
          have HC2 := Lib.hid (fun (w' : World) (h : Below wr.heap.size wr w') => show w'.cell? ⟨g, 2, none⟩ = some (.slice (some ⟨gd, 0, none⟩) m cd) from (HQ0.out w' h).field 2)
          have HCD := Lib.hid (fun (w' : World) (h : Below wr.heap.size wr w') => show w'.cell? ⟨gd, k, none⟩ = some (.string ⟨d.toArray⟩) from HED.out w' (HQ0.out w' h))
          refine wp_region_class_tail (fun w' => Below wr.heap.size wr w') 13 (by kernel_rfl) (by kernel_rfl) (Below.refl _ _).drew ?_
          simp only [List.take_succ_cons, List.take_zero, List.drop_succ_cons, List.drop_zero]
          repeat (first
            | (go_big_quiet_want; refine quiet_load_cell 45 _ rfl ⟨g, 0, none⟩ _ rfl HC0.out Try.isAgg45 ?_; go_big_quiet_on; simp only [Act.put, List.setIfInBounds_toArray, List.set_cons_zero, List.set_cons_succ])
            | (go_big_quiet_want; refine quiet_load_cell 45 _ rfl ⟨g, 2, none⟩ _ rfl HC2.out Try.isAgg45 ?_; go_big_quiet_on; simp only [Act.put, List.setIfInBounds_toArray, List.set_cons_zero, List.set_cons_succ])
            | (go_big_quiet_want; refine quiet_load_cell 9 _ rfl ⟨gd, k, none⟩ _ rfl HCD.out Try.isAgg9 ?_; go_big_quiet_on; simp only [Act.put, List.setIfInBounds_toArray, List.set_cons_zero, List.set_cons_succ])
            | go_big_quiet_step ((intro hs'; rfl)))
          refine wpQuiet_nil ?_
          intro w4 hs4
          have HR4 := Lib.hid (HQ0.out w4 hs4)
          have HO4 := Lib.hid (HO.out.below hs4)
          have ex4 := HR4.out.safe.get (by rw [strs_length, applyL_len]) (strs_get (j := a) (by rw [applyL_len]; omega))
          have hfz4 := HR4.out.safe.frozen (by rw [strs_length, applyL_len]) a
          clear hs4 HQ0 HC0 HC2 HCD HR HO
          go_wp2_with fail
          refine ⟨⟨k + 1, by omega, by go_num, ?_, HO4.out.setCell _ _ (.inl (.inr (.inl rfl)))⟩, by simp [intOf]; omega⟩
          rw [HTK.out]
          exact HR4.out.stored (by rw [applyL_len]) a d
        · obtain rfl : k = m := by omega
          have hnw : ¬ (k : Int) < (k : Int) := by omega
          have c1 := HR.out.field 1
          have c2 := HR.out.field 2
          simp only [refV, List.getElem?_toArray, List.getElem?_cons_zero, List.getElem?_cons_succ] at c1 c2
          have f1 := HR.out.cells.frozen 1
          have f2 := HR.out.cells.frozen 2
          go_wp2_with fail
          go_ret
          have hb := ((But.refl g wr).setCell 1 (.slice none 0 0)).setCell 2 (.slice none 0 0)
          have hc := (HR.out.cells.set 1 (.slice none 0 0)).set 2 (.slice none 0 0)
          refine ⟨by rw [HE.out]; rfl, .slice none 0 0, .slice none 0 0, ?_, HT.out.trans ⟨HO.out.but hb (.inl (.inl rfl)), fun b hb => ?_⟩⟩
          · rw [HEE.out]
            exact ⟨hc, HR.out.safe.but hb (fun e => HR.out.safe.notCells HR.out.cells (by decide) e), RowV.nil _ _, RowV.nil _ _, fun b _ e => by cases e⟩
          · rcases hb with hb | hb | hb | hb
            · exact .inl (.inl hb)
            · exact .inl (.inr (.inl hb))
            · cases hb
            · cases hb
end Go.Proofs.Ytmkelboncapkpaa
