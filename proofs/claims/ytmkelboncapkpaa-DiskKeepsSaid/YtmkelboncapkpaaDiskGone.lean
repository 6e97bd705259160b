/-
  The document's disk: Gone.
-/
import Derived.Test.YtmkelboncapkpaaDiskRef
namespace Go.Proofs.Ytmkelboncapkpaa
open Go.RowKit Go.BigFrame

theorem strs_set (l : List (List UInt8)) (i : Nat) (x : List UInt8) : (strs l).set i (.string ⟨x.toArray⟩) = strs (l.set i x) := by rw [strs, strs, List.map_set]
/-- A sector is stored into the safe ones. -/
theorem RefAt.stored {g gs cs n : Nat} {vA vD : Value} {s : DS} {w : World} (h : RefAt g (.slice (some ⟨gs, 0, none⟩) n cs) vA vD s w) (hn : n = s.safe.length) (i : Nat) (x : List UInt8) :
    RefAt g (.slice (some ⟨gs, 0, none⟩) n cs) vA vD { s with safe := s.safe.set i x } (w.setCell ⟨gs, i, none⟩ (.string ⟨x.toArray⟩)) := by
  have hb := (But.refl gs w).setCell i (.string ⟨x.toArray⟩)
  have h1 := h.safe.set (by rw [strs_length]; exact hn) i (.string ⟨x.toArray⟩)
  rw [strs_set] at h1
  exact ⟨h.cells.but hb (fun e => h.safe.notCells h.cells (by decide) (by rw [e]; rfl)), h1, h.at'.but hb (fun e => h.safe.notRow h.at' (by decide) rfl e), h.data.but hb (fun e => h.apart gs rfl e), h.apart⟩

set_option maxHeartbeats 4000000 in
set_option maxRecDepth 100000 in
theorem ref_gone (g : Nat) (vS vA vD : Value) (s : DS) (keep : Nat) (w : World) (h : RefAt g vS vA vD s w) (hk : keep < 18446744073709551616) (hp : s.pend.length ≤ 1000000) (hok : s.Ok) :
    Calls Try.prog 28 #[.pointer (some ⟨g, 0, none⟩), .int .u64 keep] w fun e w' => e = .returned (.tuple #[]) ∧ (∃ vA' vD', RefAt g vS vA' vD' (goneS s keep) w' ∧ Turn (refO g vS vA vD) (refO g vS vA' vD') w w') := by
  have c3 := h.field 3
  simp only [refV, List.getElem?_toArray, List.getElem?_cons_zero, List.getElem?_cons_succ] at c3
  cases hof : s.off with
  | true =>
    have HG := Shut.mk (show goneS s keep = s by rw [goneS, if_pos hof])
    rw [hof] at c3
    have H := Lib.hid h
    clear h hp hok hof
    go_enter Try.func28, Try.ntmps28
    go_wp2_with fail
    refine bodyPost_ret (results_none rfl _ _ _) rfl ?_
    exact ⟨rfl, vA, vD, by rw [HG.out]; exact H.out, Turn.refl _ _⟩
  | false =>
    rw [hof] at c3
    have c1 := h.field 1
    simp only [refV, List.getElem?_toArray, List.getElem?_cons_zero, List.getElem?_cons_succ] at c1
    obtain ⟨aa, ca, hva⟩ := h.at'.form
    rw [nums_len, List.length_map] at hva
    rw [hva] at c1
    have HVA := Shut.mk hva
    have H := Lib.hid h
    have HOK := Lib.hid hok
    have HOF := Shut.mk hof
    obtain ⟨m, hm⟩ : ∃ m, s.pend.length = m := ⟨_, rfl⟩
    have HM := Shut.mk hm
    rw [hm] at c1 hp HVA
    have H0 := Shut.mk (show keptL keep 0 (s.pend.take 0) s.safe = s.safe by simp [keptL])
    have HE := Shut.mk (show goneS s keep = { s with safe := keptL keep 0 (s.pend.take m) s.safe, pend := [], off := true, fuse := 0 } by rw [goneS, if_neg (by rw [hof]; decide), ← hm, List.take_length])
    clear h hva hof hok hm
    go_enter Try.func28, Try.ntmps28
    go_wp2_with fail
    go_loopw [17] (fun i wq => ∃ k : Nat, k ≤ m ∧ i = .int .i64 k ∧ RefAt g vS vA vD { s with safe := keptL keep 0 (s.pend.take k) s.safe } wq ∧ Only (refO g vS vA vD) w wq) (fun i _ => m - (intOf i).toNat)
    case atStart => exact ⟨0, by omega, rfl, by rw [H0.out]; exact H.out, Only.refl _ _⟩
    case round =>
      clear H c1 c3
      obtain ⟨k, hkm, rfl, hr, ho⟩ := hrel
      have HR := Lib.hid hr
      have HO := Lib.hid ho
      clear hr ho
      by_cases hlk : k < m
      · have hlk2 : (k : Int) < (m : Int) := by omega
        obtain ⟨ga, ca', hva2⟩ := HR.out.at'.formB (by rw [nums_len, List.length_map, HM.out]; omega)
        obtain ⟨gd, cd, hvd⟩ := HR.out.data.formB (by rw [strs_length, List.length_map, HM.out]; omega)
        have hkp : k < s.pend.length := by rw [HM.out]; exact hlk
        have hpk := HOK.out.pend _ (List.getElem_mem hkp)
        obtain ⟨gs, cs, hvs⟩ := HR.out.safe.formB (by rw [strs_length, keptL_len]; omega)
        rw [nums_len, List.length_map, HM.out] at hva2
        rw [strs_length, List.length_map, HM.out] at hvd
        rw [strs_length, keptL_len] at hvs
        obtain rfl : aa = some ⟨ga, 0, none⟩ := by rw [HVA.out] at hva2; injection hva2
        obtain rfl : ca = ca' := by rw [HVA.out] at hva2; injection hva2
        subst hvs hvd hva2
        have c0 := HR.out.field 0
        have c2 := HR.out.field 2
        simp only [refV, List.getElem?_toArray, List.getElem?_cons_zero, List.getElem?_cons_succ] at c0 c2
        have ea := HR.out.at'.get (by rw [nums_len, List.length_map, HM.out]) (nums_get (k := .i64) (j := k) (by rw [List.length_map]; exact hkp))
        have ed := HR.out.data.get (by rw [strs_length, List.length_map, HM.out]) (strs_get (j := k) (by rw [List.length_map]; exact hkp))
        have HT := Shut.mk (keptL_take keep s.pend s.safe 0 k hkp)
        rw [List.getD_eq_getElem?_getD, List.getElem?_map, List.getElem?_eq_getElem hkp] at ea ed
        simp only [Option.map_some, Option.getD_some, Nat.zero_add] at ea ed HT
        obtain ⟨a, hae⟩ : ∃ a, (s.pend[k]).1 = a := ⟨_, rfl⟩
        obtain ⟨d, hde⟩ : ∃ d, (s.pend[k]).2 = d := ⟨_, rfl⟩
        rw [hae] at ea HT hpk
        rw [hde] at ed HT
        have ex := HR.out.safe.get (by rw [strs_length, keptL_len]) (strs_get (j := a) (by rw [keptL_len]; exact hpk.1))
        have hfz := HR.out.safe.frozen (by rw [strs_length, keptL_len]) a
        have han : (a : Int) < (s.safe.length : Int) := by have := hpk.1; omega
        have HED := Lib.hid (fun (w' : World) (h : RefAt g (.slice (some ⟨gs, 0, none⟩) s.safe.length cs) (.slice (some ⟨ga, 0, none⟩) m ca) (.slice (some ⟨gd, 0, none⟩) m cd) { s with safe := keptL keep 0 (s.pend.take k) s.safe } w') => show w'.cell? ⟨gd, k, none⟩ = some (.string ⟨d.toArray⟩) by
          have ed := h.data.get (by rw [strs_length, List.length_map, HM.out]) (strs_get (j := k) (by rw [List.length_map]; exact hkp))
          rw [List.getD_eq_getElem?_getD, List.getElem?_map, List.getElem?_eq_getElem hkp] at ed
          simp only [Option.map_some, Option.getD_some] at ed
          rw [hde] at ed
          exact ed)
        have HKK := Lib.hid hk
        clear hae hde hkp hpk
        go_wp2_with fail
        go_loop [6, 7] (fun x n => ∃ q : Nat, q ≤ k % 64 ∧ n = .int .i64 q ∧ x = .int .u64 ((keep / 2 ^ q : Nat) : Int)) (fun _ n => k % 64 - (intOf n).toNat)
        case atStart => exact ⟨0, by omega, rfl, by simp⟩
        case round =>
          obtain ⟨q, hq, rfl, rfl⟩ := hrel
          have HX := Shut.mk (show keep / 2 ^ (q + 1) = keep / 2 ^ q / 2 by rw [Nat.pow_succ, Nat.div_div_eq_div_mul])
          have hxl : keep / 2 ^ q < 18446744073709551616 := Nat.lt_of_le_of_lt (Nat.div_le_self _ _) HKK.out
          obtain ⟨x, hx⟩ : ∃ x, keep / 2 ^ q = x := ⟨_, rfl⟩
          rw [hx] at HX hxl ⊢
          by_cases hlq : q < k % 64
          · have hlq2 : (q : Int) < (k : Int) % 64 := by omega
            clear hx
            go_wp2_with fail
            exact ⟨⟨q + 1, by omega, by go_num, by rw [HX.out]; simp⟩, by simp [intOf]; omega⟩
          · obtain rfl : q = k % 64 := by omega
            have hnq : ¬ ((k % 64 : Nat) : Int) < (k : Int) % 64 := by omega
            rw [hx] at HT
            clear hx
            by_cases hx2 : x % 2 = 1
            · have hb2 : ((x : Int) % 2 == 1) = true := by simp; omega
              rw [if_pos hx2] at HT
              clear hx2 ex hfz c0 c2 ed
              go_upto_region 10 with (fail)
              have HQ0 := Lib.hid (fun (w' : World) (h : Below wr.heap.size wr w') => (HR.out.only (Only.of (O := fun _ => False) h) (fun _ _ => id)))
              have HC0 := Lib.hid (fun (w' : World) (h : Below wr.heap.size wr w') => show w'.cell? ⟨g, 0, none⟩ = some (.slice (some ⟨gs, 0, none⟩) s.safe.length cs) from (HQ0.out w' h).field 0)
              have HC2 := Lib.hid (fun (w' : World) (h : Below wr.heap.size wr w') => show w'.cell? ⟨g, 2, none⟩ = some (.slice (some ⟨gd, 0, none⟩) m cd) from (HQ0.out w' h).field 2)
              have HCD := Lib.hid (fun (w' : World) (h : Below wr.heap.size wr w') => show w'.cell? ⟨gd, k, none⟩ = some (.string ⟨d.toArray⟩) from HED.out w' (HQ0.out w' h))
              refine wp_region_class_tail (fun w' => Below wr.heap.size wr w') 13 (by kernel_rfl) (by kernel_rfl) (Below.refl _ _).drew ?_
              simp only [List.take_succ_cons, List.take_zero, List.drop_succ_cons, List.drop_zero]
              repeat (first
                | (go_big_quiet_want; refine quiet_load_cell 45 _ rfl ⟨g, 0, none⟩ _ rfl HC0.out Try.isAgg45 ?_; go_big_quiet_on; simp only [Act.put, List.setIfInBounds_toArray, List.set_cons_zero, List.set_cons_succ])
                | (go_big_quiet_want; refine quiet_load_cell 45 _ rfl ⟨g, 2, none⟩ _ rfl HC2.out Try.isAgg45 ?_; go_big_quiet_on; simp only [Act.put, List.setIfInBounds_toArray, List.set_cons_zero, List.set_cons_succ])
                | (go_big_quiet_want; refine quiet_load_cell 9 _ rfl ⟨gd, k, none⟩ _ rfl HCD.out Try.isAgg9 ?_; go_big_quiet_on; simp only [Act.put, List.setIfInBounds_toArray, List.set_cons_zero, List.set_cons_succ])
                | go_big_quiet_step ((intro hs'; rfl)))
              refine wpQuiet_nil ?_
              intro w4 hs4
              have HR4 := Lib.hid (HQ0.out w4 hs4)
              have HO4 := Lib.hid (HO.out.below hs4)
              have ex4 := HR4.out.safe.get (by rw [strs_length, keptL_len]) (strs_get (j := a) (by rw [keptL_len]; omega))
              have hfz4 := HR4.out.safe.frozen (by rw [strs_length, keptL_len]) a
              clear hs4 HQ0 HC0 HC2 HCD HR HO
              go_wp2_with fail
              refine ⟨⟨k + 1, by omega, by go_num, ?_, HO4.out.setCell _ _ (.inl (.inr (.inl rfl)))⟩, by simp [intOf]; omega⟩
              rw [HT.out]
              exact HR4.out.stored (by rw [keptL_len]) a d
            · have hb2 : ((x : Int) % 2 == 1) = false := by simp; omega
              rw [if_neg hx2] at HT
              clear hx2
              go_wp2_with fail
              exact ⟨⟨k + 1, by omega, by go_num, by rw [HT.out]; exact HR.out, HO.out⟩, by simp [intOf]; omega⟩
      · obtain rfl : k = m := by omega
        have hnw : ¬ (k : Int) < (k : Int) := by omega
        have HB := Lib.hid HR.out.apart
        have c1 := HR.out.field 1
        have c2 := HR.out.field 2
        have c3 := HR.out.field 3
        have c5 := HR.out.field 5
        simp only [refV, List.getElem?_toArray, List.getElem?_cons_zero, List.getElem?_cons_succ] at c1 c2 c3 c5
        have f1 := HR.out.cells.frozen 1
        have f2 := HR.out.cells.frozen 2
        have f3 := HR.out.cells.frozen 3
        have f5 := HR.out.cells.frozen 5
        go_wp2_with fail
        refine bodyPost_end (results_none rfl _ _ _) rfl ?_
        have hb := ((((But.refl g wr).setCell 1 (.slice none 0 0)).setCell 2 (.slice none 0 0)).setCell 3 (.bool true)).setCell 5 (.int .i64 0)
        have hc := (((HR.out.cells.set 1 (.slice none 0 0)).set 2 (.slice none 0 0)).set 3 (.bool true)).set 5 (.int .i64 0)
        refine ⟨rfl, .slice none 0 0, .slice none 0 0, ?_, ⟨HO.out.but hb (.inl (.inl rfl)), fun b hb => ?_⟩⟩
        · rw [HE.out]
          exact ⟨hc, HR.out.safe.but hb (fun e => HR.out.safe.notCells HR.out.cells (by decide) e), RowV.nil _ _, RowV.nil _ _, fun b _ e => by cases e⟩
        · rcases hb with hb | hb | hb | hb
          · exact .inl (.inl hb)
          · exact .inl (.inr (.inl hb))
          · cases hb
          · cases hb
end Go.Proofs.Ytmkelboncapkpaa
