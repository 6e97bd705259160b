/-
  Are both disks the same: same.
-/
import Derived.Test.YtmkelboncapkpaaDoes
namespace Go.Proofs.Ytmkelboncapkpaa
open Go.RowKit Go.BigFrame

theorem whyS_in {s : DS} {i : Nat} (h : i < s.safe.length) : whyS s i = if s.off then 7 else 0 := by rw [whyS, if_neg (by omega)]

set_option maxHeartbeats 4000000 in
set_option maxRecDepth 100000 in
theorem same7_any (Od Om : Nat → Prop) (vd vm : Value) (s : DS) (n : Nat) (w : World) (h : Duo Od Om vd vm s s w) (hf : Fit s n) (hn : n ≤ 900000) :
    Calls Try.prog 12 #[vd, vm] w fun e w' => e = .returned (.bool true) ∧ Below w.heap.size w w' := by
  obtain ⟨ad, hvd⟩ := h.d.ptr
  subst hvd
  obtain ⟨g, vS, vA, vD, rfl, rfl, hm⟩ := id h.m
  have HD := Lib.hid h
  have HF := Lib.hid hf
  have HFM := Lib.hid (hf.mono (show n ≤ 999999 by omega))
  obtain ⟨aS, cS, hvS⟩ := hm.safe.form
  obtain ⟨aA, cA, hvA⟩ := hm.at'.form
  rw [strs_length] at hvS
  rw [nums_len, List.length_map] at hvA
  subst hvS hvA
  have HM := Lib.hid hm
  obtain ⟨N, hN⟩ : ∃ N, s.safe.length = N := ⟨_, rfl⟩
  have HN := Shut.mk hN
  have HN6 := Lib.hid (show N ≤ 16384 by rw [← hN]; exact hf.safe)
  have HQ0 := Lib.hid (fun (w' : World) (hb : Below w.heap.size w w') => show w'.cell? ⟨g, 0, none⟩ = some (.slice aS N cS) by rw [← HN.out]; exact (hm.cells.below hb).at 0)
  have HQ1 := Lib.hid (fun (w' : World) (hb : Below w.heap.size w w') => show w'.cell? ⟨g, 1, none⟩ = some (.slice aA s.pend.length cA) from (hm.cells.below hb).at 1)
  have HQ3 := Lib.hid (fun (w' : World) (hb : Below w.heap.size w w') => show w'.cell? ⟨g, 3, none⟩ = some (.bool s.off) from (hm.cells.below hb).at 3)
  have HQ4 := Lib.hid (fun (w' : World) (hb : Below w.heap.size w w') => show w'.cell? ⟨g, 4, none⟩ = some (.int .i64 (s.acts : Int)) from (hm.cells.below hb).at 4)
  have HDS := Lib.hid (fun (w' : World) (hb : Below w.heap.size w w') => dev7_size Od _ s w' (HD.out.below hb).d HFM.out)
  rw [hN] at HDS
  have HDD := Lib.hid (fun (w' : World) (hb : Below w.heap.size w w') => dev7_down Od _ s w' (HD.out.below hb).d HFM.out)
  have HDA := Lib.hid (fun (w' : World) (hb : Below w.heap.size w w') => dev7_acts Od _ s w' (HD.out.below hb).d HFM.out)
  have HDW := Lib.hid (fun (w' : World) (hb : Below w.heap.size w w') => dev7_waits Od _ s w' (HD.out.below hb).d HFM.out)
  have HWH := Lib.hid (fun i (hi : i < N) => whyS_in (s := s) (i := i) (by rw [HN.out]; exact hi))
  have HRB := Lib.hid (fun (i : Nat) (hi : i < N) (hoff : s.off = false) => show readB s i = readS s i by rw [readB, HWH.out i hi, hoff]; rfl)
  obtain ⟨off, hof⟩ : ∃ o, s.off = o := ⟨_, rfl⟩
  have HOF := Shut.mk hof
  rw [hof] at HQ3 HDD HWH
  obtain ⟨ac, hac⟩ : ∃ a, s.acts = a := ⟨_, rfl⟩
  rw [hac] at HQ4 HDA
  obtain ⟨pl, hpl⟩ : ∃ p, s.pend.length = p := ⟨_, rfl⟩
  rw [hpl] at HQ1 HDW
  clear h hm hf hN hof hac hpl
  go_enter Try.func12, Try.ntmps12
  go_upto_region 1 with (fail)
  refine wp_region_class (fun w' => Below w.heap.size w w') (by kernel_rfl) (by kernel_rfl) (Below.refl _ _).drew ?_
  repeat (first
    | go_big_quiet_skip
    | (go_big_quiet_want; refine quiet_load_cell 45 _ rfl ⟨g, 0, none⟩ _ rfl HQ0.out Try.isAgg45 ?_; go_big_quiet_on; simp only [Act.put, List.setIfInBounds_toArray, List.set_cons_zero, List.set_cons_succ])
    | (go_big_quiet_want; refine quiet_load_cell 52 _ rfl ⟨g, 1, none⟩ _ rfl HQ1.out Try.isAgg52 ?_; go_big_quiet_on; simp only [Act.put, List.setIfInBounds_toArray, List.set_cons_zero, List.set_cons_succ])
    | (go_big_quiet_want; refine quiet_load_cell 4 _ rfl ⟨g, 3, none⟩ _ rfl HQ3.out Try.isAgg4 ?_; go_big_quiet_on; simp only [Act.put, List.setIfInBounds_toArray, List.set_cons_zero, List.set_cons_succ])
    | (go_big_quiet_want; refine quiet_load_cell 3 _ rfl ⟨g, 4, none⟩ _ rfl HQ4.out Try.isAgg3 ?_; go_big_quiet_on; simp only [Act.put, List.setIfInBounds_toArray, List.set_cons_zero, List.set_cons_succ])
    | go_big_quiet_step ((intro hs'; first
        | rfl
        | (go_at_call 21; exact (HDS.out _ hs').mono fun e w' h => ⟨h.1, hs'.trans (h.2.mono hs'.size)⟩)
        | (go_at_call 19; exact (HDD.out _ hs').mono fun e w' h => ⟨h.1, hs'.trans (h.2.mono hs'.size)⟩)
        | (go_at_call 20; exact (HDA.out _ hs').mono fun e w' h => ⟨h.1, hs'.trans (h.2.mono hs'.size)⟩)
        | (go_at_call 22; exact (HDW.out _ hs').mono fun e w' h => ⟨h.1, hs'.trans (h.2.mono hs'.size)⟩))))
  refine wpQuiet_nil ?_
  intro w2 hs2
  have c0 := HQ0.out w2 hs2
  have HB2 := Lib.hid hs2
  clear hs2 HDS HDD HDA HDW HQ1 HQ4
  go_wp2_with fail
  go_loopw [49] (fun i wq => ∃ k : Nat, k ≤ N ∧ i = .int .i64 k ∧ Below w.heap.size w wq) (fun i _ => N - (intOf i).toNat)
  case atStart => exact ⟨0, by omega, rfl, HB2.out⟩
  case round =>
    clear HB2 c0
    obtain ⟨k, hk, rfl, hb⟩ := hrel
    have HB := Lib.hid hb
    clear hb
    by_cases hlk : k < N
    · have hlk2 : (k : Int) < (N : Int) := by omega
      have hn6 := HN6.out
      have HW := Lib.hid (HWH.out k hlk)
      have HRD := Lib.hid (dev7_read Od _ s (k : Int) wr (HD.out.below HB.out).d HFM.out)
      cases off with
      | true =>
        have hrb : readB s k = [] := by rw [readB, if_neg (by rw [HW.out]; decide)]
        rw [hrb, HW.out] at HRD
        go_wp2_with fail
        refine HRD.out.mono ?_
        rintro e w3 ⟨⟨ao, co, rfl, _⟩, hb3⟩
        have HB3 := Lib.hid (HB.out.trans (hb3.mono HB.out.size))
        clear hb3 HB HRD
        have HC3 := Lib.hid (fun (w' : World) (h : Below w3.heap.size w3 w') => HQ3.out w' (HB3.out.trans (h.mono HB3.out.size)))
        go_upto_region 7 with (fail)
        refine wp_region_class (fun w' => Below w3.heap.size w3 w') (by kernel_rfl) (by kernel_rfl) (Below.refl _ _).drew ?_
        repeat (first
          | go_big_quiet_skip
          | (go_big_quiet_want; refine quiet_load_cell 4 _ rfl ⟨g, 3, none⟩ _ rfl HC3.out Try.isAgg4 ?_; go_big_quiet_on; simp only [Act.put, List.setIfInBounds_toArray, List.set_cons_zero, List.set_cons_succ])
          | go_big_quiet_step ((intro hs'; rfl)))
        refine wpQuiet_nil ?_
        intro w4 hs4
        have HB4 := Lib.hid (HB3.out.trans (hs4.mono HB3.out.size))
        clear hs4 HB3 HC3
        go_wp2_with fail
        exact ⟨⟨k + 1, by omega, by go_num, HB4.out⟩, by simp [intOf]; omega⟩
      | false =>
        have hrb := HRB.out k hlk HOF.out
        have HRM := Lib.hid (fun (w' : World) (h : Below w.heap.size w w') => (HD.out.m.below h).read HF.out (by omega) k (by rw [HN.out]; exact hlk))
        rw [hrb, HW.out] at HRD
        obtain ⟨Z, hZ⟩ : ∃ Z, readS s k = Z := ⟨_, rfl⟩
        rw [hZ] at HRD HRM
        clear hrb hZ
        go_wp2_with fail
        refine HRD.out.mono ?_
        rintro e w3 ⟨⟨ao, co, rfl, hnb⟩, hb3⟩
        have HX := Lib.hid hnb.nums
        have HB3 := Lib.hid (HB.out.trans (hb3.mono HB.out.size))
        clear hb3 hnb HB HRD
        have HC3 := Lib.hid (fun (w' : World) (h : Below w3.heap.size w3 w') => HQ3.out w' (HB3.out.trans (h.mono HB3.out.size)))
        have HCV := Lib.hid (fun (w' : World) (h : Below w3.heap.size w3 w') => conv_in (P := Try.prog) Try.underlying29 Try.underlying5 Try.underlying9 (c := co) (HX.out.below h))
        have HRD := Lib.hid (fun (w' : World) (h : Below w3.heap.size w3 w') => HRM.out w' (HB3.out.trans (h.mono HB3.out.size)))
        clear HRM HX
        go_upto_region 7 with (fail)
        refine wp_region_class (fun w' => Below w3.heap.size w3 w') (by kernel_rfl) (by kernel_rfl) (Below.refl _ _).drew ?_
        repeat (first
          | go_big_quiet_skip
          | (go_big_quiet_want; refine quiet_load_cell 4 _ rfl ⟨g, 3, none⟩ _ rfl HC3.out Try.isAgg4 ?_; go_big_quiet_on; simp only [Act.put, List.setIfInBounds_toArray, List.set_cons_zero, List.set_cons_succ])
          | (go_big_quiet_want; refine quiet_conv 29 9 _ rfl _ _ rfl HCV.out ?_; go_big_quiet_on; simp only [Act.put, List.setIfInBounds_toArray, List.set_cons_zero, List.set_cons_succ])
          | go_big_quiet_step ((intro hs'; first
              | rfl
              | (go_at_call 26; exact (HRD.out _ hs').mono fun e w' h => ⟨h.1, by rw [h.2]; exact hs'⟩))))
        refine wpQuiet_nil ?_
        intro w4 hs4
        have HB4 := Lib.hid (HB3.out.trans (hs4.mono HB3.out.size))
        clear hs4 HB3 HC3 HCV HRD
        go_wp2_with fail
        exact ⟨⟨k + 1, by omega, by go_num, HB4.out⟩, by simp [intOf]; omega⟩
    · obtain rfl : k = N := by omega
      have hnw : ¬ (k : Int) < (k : Int) := by omega
      go_wp2_with fail
      go_ret
      exact ⟨rfl, HB.out⟩
end Go.Proofs.Ytmkelboncapkpaa
