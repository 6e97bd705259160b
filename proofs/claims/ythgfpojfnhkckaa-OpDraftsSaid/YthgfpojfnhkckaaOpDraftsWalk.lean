/-
  The walk of OpDrafts.
-/
import Derived.Test.YthgfpojfnhkckaaAlive9
import Derived.Test.YthgfpojfnhkckaaOpArgs
import Derived.Test.YthgfpojfnhkckaaOpEq
import Derived.Test.YthgfpojfnhkckaaOpDrd
namespace Go.Proofs.Ythgfpojfnhkckaa.opDrafts
open Go.RowKit Go.BigFrame Go.Proofs.Ythgfpojfnhkckaa

set_option maxHeartbeats 4000000 in
set_option maxRecDepth 100000 in
theorem walk (w : World) (a : DraftN) (ha : a.In) (b : DraftN) (hb : b.In) :
    Calls Try.prog 6 #[.agg (draftV a), .agg (draftV b)] w fun e w' => e = .returned (.bool true) ∧ Below w.heap.size w w' := by
  have HA := Lib.hid ha
  have HB := Lib.hid hb
  clear ha hb
  go_enter Try.func6, Try.ntmps6
  go_upto_region 1 with (fail)
  obtain ⟨wa, hwa⟩ : ∃ x, x = w.alloc (.cells (draftV a) 25) := ⟨_, rfl⟩
  have ka : Below w.heap.size w wa := by rw [hwa]; exact (Below.refl _ _).alloc (Nat.le_refl _) _
  have xa : Cells w.heap.size 25 (draftV a) wa := by rw [hwa]; exact heap_alloc_new w _
  have sa : wa.heap.size = w.heap.size + 1 := by rw [hwa]; exact World.size_alloc _ _
  rw [← hwa]
  obtain ⟨wb, hwb⟩ : ∃ x, x = wa.alloc (.cells (draftV b) 25) := ⟨_, rfl⟩
  have kb : Below wa.heap.size wa wb := by rw [hwb]; exact (Below.refl _ _).alloc (Nat.le_refl _) _
  have xb : Cells wa.heap.size 25 (draftV b) wb := by rw [hwb]; exact heap_alloc_new wa _
  rw [← hwb]
  rw [sa] at xb
  have HX := Lib.hid (xa.below kb)
  have HY := Lib.hid xb
  have HK := Lib.hid (ka.trans (kb.mono ka.size))
  clear ka xa sa kb xb hwa hwb
  go_wp2_with fail
  refine (alive9_any wb).mono ?_
  rintro e w2 ⟨rfl, hb⟩
  have HX2 := Lib.hid (HX.out.below hb)
  have HY2 := Lib.hid (HY.out.below hb)
  have HK2 := Lib.hid (HK.out.trans (hb.mono HK.out.size))
  clear hb HX HY HK
  obtain ⟨_, c1, c2, _⟩ := draft_cells HX2.out
  obtain ⟨_, d1, d2, _⟩ := draft_cells HY2.out
  have hka := HA.out.key
  have hva := HA.out.val
  have hkb := HB.out.key
  have hvb := HB.out.val
  obtain ⟨n1, e1⟩ : ∃ n, a.key.length = n := ⟨_, rfl⟩
  obtain ⟨n2, e2⟩ : ∃ n, a.val.length = n := ⟨_, rfl⟩
  obtain ⟨n3, e3⟩ : ∃ n, b.key.length = n := ⟨_, rfl⟩
  obtain ⟨n4, e4⟩ : ∃ n, b.val.length = n := ⟨_, rfl⟩
  have HE := Lib.hid (And.intro e1 (And.intro e2 (And.intro e3 e4)))
  rw [e1] at hka
  rw [e2] at hva
  rw [e3] at hkb
  rw [e4] at hvb
  have HSD := Lib.hid (show (Try.prog.info? 25).map (·.size) = some (draftV a).size by rw [draftV_size HA.out.ref.1]; exact Try.sizeD)
  have HSE := Lib.hid (show (Try.prog.info? 25).map (·.size) = some (draftV b).size by rw [draftV_size HB.out.ref.1]; exact Try.sizeD)
  have HD1 := Lib.hid (fun w' => dev_goodDraft a HA.out.ref HA.out.key HA.out.val w')
  have HD2 := Lib.hid (fun w' => dev_goodDraft b HB.out.ref HB.out.key HB.out.val w')
  by_cases hs : 512 < n1 + n2 + n3 + n4
  · have hsi : decide ((512 : Int) < (n1 : Int) + n2 + n3 + n4) = true := decide_eq_true (by omega)
    go_wp2_with fail
    go_ret
    exact ⟨rfl, HK2.out⟩
  have hsi : decide ((512 : Int) < (n1 : Int) + n2 + n3 + n4) = false := decide_eq_false (by omega)
  have HFA := Lib.hid (show a.Fit from ⟨HA.out.ref, HA.out.low, HA.out.high, by rw [HE.out.1]; omega, by rw [HE.out.2.1]; omega⟩)
  have HFB := Lib.hid (show b.Fit from ⟨HB.out.ref, HB.out.low, HB.out.high, by rw [HE.out.2.2.1]; omega, by rw [HE.out.2.2.2]; omega⟩)
  obtain ⟨za, hza⟩ : ∃ z, decide (GoodD a) = z := ⟨_, rfl⟩
  obtain ⟨zb, hzb⟩ : ∃ z, decide (GoodD b) = z := ⟨_, rfl⟩
  have HZA := Shut.mk hza
  have HZB := Shut.mk hzb
  rw [hza] at HD1
  rw [hzb] at HD2
  clear hza hzb HE
  go_wp2_with (refine wpList_load_cells_want (by rfl) 25 _ rfl w.heap.size (draftV a) 25 _ rfl HX2.out Try.underlying25 rfl HSD.out ?_)
  refine (HD1.out w2).mono ?_
  rintro e w3 ⟨rfl, hb⟩
  have HX3 := Lib.hid (HX2.out.below hb)
  have HY3 := Lib.hid (HY2.out.below hb)
  have HK3 := Lib.hid (HK2.out.trans (hb.mono HK2.out.size))
  clear hb HX2 HY2 HK2 c1 c2 d1 d2
  cases za with
  | false =>
    go_wp2_with fail
    go_ret
    exact ⟨rfl, HK3.out⟩
  | true =>
  go_wp2_with (refine wpList_load_cells_want (by rfl) 25 _ rfl (w.heap.size + 1) (draftV b) 25 _ rfl HY3.out Try.underlying25 rfl HSE.out ?_)
  refine (HD2.out w3).mono ?_
  rintro e w4 ⟨rfl, hb⟩
  have HX4 := Lib.hid (HX3.out.below hb)
  have HY4 := Lib.hid (HY3.out.below hb)
  have HK4 := Lib.hid (HK3.out.trans (hb.mono HK3.out.size))
  clear hb HX3 HY3 HK3
  cases zb with
  | false =>
    go_wp2_with fail
    go_ret
    exact ⟨rfl, HK4.out⟩
  | true =>
  have hga := of_decide_eq_true HZA.out
  have hgb := of_decide_eq_true HZB.out
  have hka0 : 0 ≤ a.kind ∧ a.kind < 9223372036854775808 := ⟨by have := hga.1; omega, by have := HA.out.high; omega⟩
  have hkb0 : 0 ≤ b.kind ∧ b.kind < 9223372036854775808 := ⟨by have := hgb.1; omega, by have := HB.out.high; omega⟩
  have hra : readD (draftB a) = some a := (readD_draftB hka0 HFA.out.key HFA.out.val HA.out.ref).trans (if_pos hga)
  have hlen := draftB_le hka0.2 HFA.out.key HFA.out.val HA.out.ref.1
  have HINJ := Lib.hid (fun h => draftB_inj hka0 hkb0 HFA.out.key HFA.out.val HA.out.ref HFB.out.key HFB.out.val HB.out.ref h)
  have HTA := Lib.hid (fun w' => dev_draftText a HFA.out w')
  have HTB := Lib.hid (fun w' => dev_draftText b HFB.out w')
  have HRD := Lib.hid (show ∀ w', Calls Try.prog 15 #[.string ⟨(draftB a).toArray⟩] w' fun e w'' => e = .returned (.tuple #[.agg (draftV a), .int .i64 0]) ∧ Below w'.heap.size w' w'' from fun w' => by
    have h := dev_readDraft (draftB a) w' (by omega)
    rw [hra] at h
    exact h)
  have HQ1 := Lib.hid (fun w' => eql_draft a a HA.out.ref HA.out.ref w')
  have HQ2 := Lib.hid (fun w' => eql_draft a b HA.out.ref HB.out.ref w')
  rw [decide_eq_true (rfl : a = a)] at HQ1
  obtain ⟨S, hS⟩ : ∃ T, draftB a = T := ⟨_, rfl⟩
  obtain ⟨T, hT⟩ : ∃ T, draftB b = T := ⟨_, rfl⟩
  rw [hS] at HTA HRD HINJ
  rw [hT] at HTB HINJ
  have HST := Lib.hid (show ∀ h : a = b, S = T by intro h; rw [← hS, ← hT, h])
  have HZD := Lib.hid (show (Try.prog.info? 25).bind (·.zero) = some (.agg (draftL zeroD).toArray) by kernel_rfl)
  have HSS := Lib.hid (show (draftV zeroD).size = (draftV a).size by rw [draftV_size HA.out.ref.1]; rfl)
  obtain ⟨z, hz⟩ : ∃ z, decide (a = b) = z := ⟨_, rfl⟩
  have HZ := Shut.mk hz
  rw [hz] at HQ2
  have hst : (S == T) = z := by
    cases z with
    | true => rw [HST.out (of_decide_eq_true hz)]; simp
    | false => simp only [beq_eq_false_iff_ne, ne_eq]; intro e; exact of_decide_eq_false hz (HINJ.out e)
  have HQT := Lib.hid (show ∀ w, (binOp .eql 9 (.string ⟨S.toArray⟩) (.string ⟨T.toArray⟩)).run Try.prog w = .ok (.bool z) w from fun w => by
    go_simp
    try rw [← hst])
  have HQG := Lib.hid (show ∀ (x y : Operand) (w : World), (eqGuard .eql 9 x y (.string ⟨S.toArray⟩) (.string ⟨T.toArray⟩)).run Try.prog w = .ok () w from fun x y w => by go_simp)
  clear hga hgb hka0 hkb0 hra hlen hS hT hz HINJ HST hst
  go_wp2_with (refine wpList_load_cells rfl 25 _ rfl w.heap.size (draftV a) 25 _ rfl HX4.out Try.underlying25 rfl HSD.out ?_)
  refine (HTA.out w4).mono ?_
  rintro e w5 ⟨rfl, hb⟩
  have HX5 := Lib.hid (HX4.out.below hb)
  have HY5 := Lib.hid (HY4.out.below hb)
  have HK5 := Lib.hid (HK4.out.trans (hb.mono HK4.out.size))
  clear hb HX4 HY4 HK4
  go_wp2_with fail
  refine (HRD.out w5).mono ?_
  rintro e w6 ⟨rfl, hb⟩
  have HX6 := Lib.hid (HX5.out.below hb)
  have HY6 := Lib.hid (HY5.out.below hb)
  have HK6 := Lib.hid (HK5.out.trans (hb.mono HK5.out.size))
  clear hb HX5 HY5 HK5 HRD
  go_wp2_with (first
    | (refine wpList_alloc_of rfl 25 rfl (draftL zeroD) HZD.out ?_)
    | (refine wpList_store_cells rfl 25 _ _ rfl rfl w6.heap.size (draftV zeroD) (draftV a) 25 rfl rfl (heap_alloc_new w6 _) HSD.out HSS.out (draftV_all a) ?_))
  intro w7 hc hb
  have hb7 : Below w6.heap.size w6 w7 := But.toBelow ((Below.refl _ w6).alloc (Nat.le_refl _) _) hb.out (Nat.le_refl _) (by rw [World.size_alloc]; exact Nat.le_succ _)
  have HC0 := Lib.hid (fun (w' : World) (q : Below w7.heap.size w7 w') => hc.out.below q)
  have HC1 := Lib.hid (fun (w' : World) (q : Below w7.heap.size w7 w') => (HX6.out.below hb7).below q)
  have HC2 := Lib.hid (fun (w' : World) (q : Below w7.heap.size w7 w') => (HY6.out.below hb7).below q)
  have HK7 := Lib.hid (HK6.out.trans (hb7.mono HK6.out.size))
  clear hc hb hb7 HX6 HY6 HK6
  obtain ⟨g, hg⟩ : ∃ g, w6.heap.size = g := ⟨_, rfl⟩
  rw [hg] at HC0 ⊢
  clear hg
  cases z
  all_goals
    go_upto_region 6 with (fail)
    refine wp_region_class (fun w' => Below w7.heap.size w7 w') (by kernel_rfl) (by kernel_rfl) (Below.refl _ _).drew ?_
    repeat (first
      | go_big_quiet_skip
      | (go_big_quiet_want; refine quiet_load_cells 25 _ rfl g (draftV a) 25 _ rfl HC0.out Try.underlying25 rfl HSD.out ?_; go_big_quiet_on; simp only [Act.put, List.setIfInBounds_toArray, List.set_cons_zero, List.set_cons_succ])
      | (go_big_quiet_want; refine quiet_load_cells 25 _ rfl w.heap.size (draftV a) 25 _ rfl HC1.out Try.underlying25 rfl HSD.out ?_; go_big_quiet_on; simp only [Act.put, List.setIfInBounds_toArray, List.set_cons_zero, List.set_cons_succ])
      | (go_big_quiet_want; refine quiet_load_cells 25 _ rfl (w.heap.size + 1) (draftV b) 25 _ rfl HC2.out Try.underlying25 rfl HSE.out ?_; go_big_quiet_on; simp only [Act.put, List.setIfInBounds_toArray, List.set_cons_zero, List.set_cons_succ])
      | (go_big_quiet_want; refine quiet_bin .eql 25 25 _ _ rfl (.agg (draftV a)) (.agg (draftV a)) _ rfl rfl (guard_draft _ _ _ _) HQ1.out ?_; go_big_quiet_on; simp only [Act.put, List.setIfInBounds_toArray, List.set_cons_zero, List.set_cons_succ])
      | (go_big_quiet_want; refine quiet_bin .eql 25 25 _ _ rfl (.agg (draftV a)) (.agg (draftV b)) _ rfl rfl (guard_draft _ _ _ _) HQ2.out ?_; go_big_quiet_on; simp only [Act.put, List.setIfInBounds_toArray, List.set_cons_zero, List.set_cons_succ])
      | (go_big_quiet_want; refine quiet_bin .eql 9 9 _ _ rfl (.string ⟨S.toArray⟩) (.string ⟨T.toArray⟩) _ rfl rfl (HQG.out _ _) HQT.out ?_; go_big_quiet_on; simp only [Act.put, List.setIfInBounds_toArray, List.set_cons_zero, List.set_cons_succ])
      | go_big_quiet_step ((intro hs'; first
          | (go_at_call 9; exact (HD1.out _).mono fun e w' h => ⟨h.1, hs'.trans (h.2.mono hs'.size)⟩)
          | (go_at_call_of 23 (Value.agg (draftV a)); exact (HTA.out _).mono fun e w' h => ⟨h.1, hs'.trans (h.2.mono hs'.size)⟩)
          | (go_at_call_of 23 (Value.agg (draftV b)); exact (HTB.out _).mono fun e w' h => ⟨h.1, hs'.trans (h.2.mono hs'.size)⟩)
          | rfl)))
  all_goals
    refine wpQuiet_nil ?_
    intro w8 hb8
    go_wp2_with fail
    go_ret
    exact ⟨by simp, HK7.out.trans (hb8.mono HK7.out.size)⟩
end Go.Proofs.Ythgfpojfnhkckaa.opDrafts
