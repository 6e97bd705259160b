/-
  The walk of OpOne. Written by op/gen/gen_onew.py.
-/
import Derived.Test.YthgfpojfnhkckaaDoorOpWritesWalk
namespace Go.Proofs.YthgfpojfnhkckaaDoor.opOne
open Go.RowKit Go.BigFrame Go.Proofs.YthgfpojfnhkckaaDoor Go.Proofs.YthgfpojfnhkckaaDoor.opWrites

theorem small_of {o : OpN} (h : o.In) (hg : great9N o = false) : o.Small := by
  have f := fit_of h hg
  have q1 := h.d.high
  have q2 := h.ahigh
  have q3 := h.dhigh
  exact ⟨by omega, by omega, by omega, f.d.key, f.d.val, h.ok, f.many⟩
theorem eql_id9 (a b : List Nat) (ha : IdOk a) (hb : IdOk b) (w : World) : (binOp .eql 25 (.agg (nums .u8 a).toArray) (.agg (nums .u8 b).toArray)).run Tryd.prog w = .ok (.bool (a == b)) w := by
  rw [run_eql_struct, equal_idI a b ha.1 hb.1 ha.2 hb.2]
  simp
theorem eql_text9 (a b : List UInt8) (w : World) : (binOp .eql 9 (.string ⟨a.toArray⟩) (.string ⟨b.toArray⟩)).run Tryd.prog w = .ok (.bool (a == b)) w := by
  go_simp
set_option maxHeartbeats 8000000 in
set_option maxRecDepth 100000 in
theorem walk (w : World) (hk : KAt w) (a : OpN) (po : Option Addr) (pc : Nat) (ha : a.In) (hpa : IAt po a.preds w) (b : OpN) (qo : Option Addr) (qc : Nat) (hb : b.In) (hpb : IAt qo b.preds w) :
    Calls Tryd.prog 4 #[.agg (opV a po pc), .agg (opV b qo qc)] w fun e w' => e = .returned (.bool true) ∧ Below w.heap.size w w' := by
  have HA := Lib.hid ha
  have HB := Lib.hid hb
  have HPA := Lib.hid hpa
  have HPB := Lib.hid hpb
  have HK := Lib.hid hk
  clear ha hb hpa hpb hk
  go_enter Tryd.func4, Tryd.ntmps4
  go_upto_region 1 with (fail)
  obtain ⟨wa, hwa⟩ : ∃ x, x = w.alloc (.cells (opV a po pc) 30) := ⟨_, rfl⟩
  have ka : Below w.heap.size w wa := by rw [hwa]; exact (Below.refl _ _).alloc (Nat.le_refl _) _
  have xa : Cells w.heap.size 30 (opV a po pc) wa := by rw [hwa]; exact heap_alloc_new w _
  have sa : wa.heap.size = w.heap.size + 1 := by rw [hwa]; exact World.size_alloc _ _
  rw [← hwa]
  obtain ⟨wb, hwb⟩ : ∃ x, x = wa.alloc (.cells (opV b qo qc) 30) := ⟨_, rfl⟩
  have kb : Below wa.heap.size wa wb := by rw [hwb]; exact (Below.refl _ _).alloc (Nat.le_refl _) _
  have xb : Cells wa.heap.size 30 (opV b qo qc) wb := by rw [hwb]; exact heap_alloc_new wa _
  rw [← hwb]
  rw [sa] at xb
  obtain ⟨ga, hga⟩ : ∃ g, w.heap.size = g := ⟨_, rfl⟩
  obtain ⟨gb, hgb⟩ : ∃ g, ga + 1 = g := ⟨_, rfl⟩
  have HX := Lib.hid (xa.below kb)
  have HY := Lib.hid xb
  have HW := Lib.hid (ka.trans (kb.mono ka.size))
  rw [hga, hgb] at HY
  rw [hga] at HX
  simp only [hga, hgb]
  have HGA := Shut.mk hga
  clear ka xa sa kb xb hwa hwb hga hgb
  go_wp2_with fail
  refine (alive9_any wb).mono ?_
  rintro e w2 ⟨rfl, hb⟩
  have HX2 := Lib.hid (HX.out.below hb)
  have HY2 := Lib.hid (HY.out.below hb)
  have HW2 := Lib.hid (HW.out.trans (hb.mono HW.out.size))
  clear hb HX HY HW
  have HSA := Lib.hid (show (Tryd.prog.info? 30).map (·.size) = some (opV a po pc).size by rw [opV_size HA.out.d.ref.1]; exact Tryd.sizeO)
  have HSB := Lib.hid (show (Tryd.prog.info? 30).map (·.size) = some (opV b qo qc).size by rw [opV_size HB.out.d.ref.1]; exact Tryd.sizeO)
  have HG1 := Lib.hid (fun w' => great9_any a po pc w' HA.out.d.ref.1 (by have := HA.out.many; omega) HA.out.d.key HA.out.d.val)
  have HG2 := Lib.hid (fun w' => great9_any b qo qc w' HB.out.d.ref.1 (by have := HB.out.many; omega) HB.out.d.key HB.out.d.val)
  obtain ⟨g1, hg1⟩ : ∃ g, great9N a = g := ⟨_, rfl⟩
  obtain ⟨g2, hg2⟩ : ∃ g, great9N b = g := ⟨_, rfl⟩
  rw [hg1] at HG1
  rw [hg2] at HG2
  have HR1 := Shut.mk hg1
  have HR2 := Shut.mk hg2
  clear hg1 hg2
  go_wp2_with (refine wpList_load_cells rfl 30 _ rfl ga (opV a po pc) 30 _ rfl HX2.out Tryd.underlying30 rfl HSA.out ?_)
  refine (HG1.out w2).mono ?_
  rintro e w3 ⟨rfl, hb⟩
  have HX3 := Lib.hid (HX2.out.below hb)
  have HY3 := Lib.hid (HY2.out.below hb)
  have HW3 := Lib.hid (HW2.out.trans (hb.mono HW2.out.size))
  clear hb HX2 HY2 HW2 HG1
  cases g1 with
  | true =>
    go_wp2_with fail
    go_ret
    exact ⟨rfl, HW3.out⟩
  | false =>
  go_wp2_with (refine wpList_load_cells_want (by rfl) 30 _ rfl gb (opV b qo qc) 30 _ rfl HY3.out Tryd.underlying30 rfl HSB.out ?_)
  refine (HG2.out w3).mono ?_
  rintro e w4 ⟨rfl, hb⟩
  have HX4 := Lib.hid (HX3.out.below hb)
  have HY4 := Lib.hid (HY3.out.below hb)
  have HW4 := Lib.hid (HW3.out.trans (hb.mono HW3.out.size))
  clear hb HX3 HY3 HW3 HG2
  cases g2 with
  | true =>
    go_wp2_with fail
    go_ret
    exact ⟨rfl, HW4.out⟩
  | false =>
  obtain ⟨cr, c35, c36, _⟩ := op_cells HA.out.ok.ref.1 HX4.out
  obtain ⟨c0, _, _, _⟩ := op_fields cr
  obtain ⟨dr, d35, d36, _⟩ := op_cells HB.out.ok.ref.1 HY4.out
  obtain ⟨d0, _, _, _⟩ := op_fields dr
  clear cr dr
  obtain ⟨A1, e1⟩ : ∃ x, a.author = x := ⟨_, rfl⟩
  rw [e1] at c35
  obtain ⟨B1, e4⟩ : ∃ x, b.author = x := ⟨_, rfl⟩
  rw [e4] at d35
  obtain ⟨A2, e2⟩ : ∃ x, a.depth = x := ⟨_, rfl⟩
  rw [e2] at c36
  obtain ⟨B2, e5⟩ : ∃ x, b.depth = x := ⟨_, rfl⟩
  rw [e5] at d36
  obtain ⟨A3, e3⟩ : ∃ x, a.d.kind = x := ⟨_, rfl⟩
  rw [e3] at c0
  obtain ⟨B3, e6⟩ : ∃ x, b.d.kind = x := ⟨_, rfl⟩
  rw [e6] at d0
  by_cases hA1 : A1 < 0
  · have iA1 : decide (A1 < 0) = true := decide_eq_true hA1
    clear e1 e2 e3 e4 e5 e6
    go_wp2_with fail
    go_ret
    exact ⟨rfl, HW4.out⟩
  have iA1 : decide (A1 < 0) = false := decide_eq_false hA1
  by_cases hB1 : B1 < 0
  · have iB1 : decide (B1 < 0) = true := decide_eq_true hB1
    clear e1 e2 e3 e4 e5 e6
    go_wp2_with fail
    go_ret
    exact ⟨rfl, HW4.out⟩
  have iB1 : decide (B1 < 0) = false := decide_eq_false hB1
  by_cases hA2 : A2 < 0
  · have iA2 : decide (A2 < 0) = true := decide_eq_true hA2
    clear e1 e2 e3 e4 e5 e6
    go_wp2_with fail
    go_ret
    exact ⟨rfl, HW4.out⟩
  have iA2 : decide (A2 < 0) = false := decide_eq_false hA2
  by_cases hB2 : B2 < 0
  · have iB2 : decide (B2 < 0) = true := decide_eq_true hB2
    clear e1 e2 e3 e4 e5 e6
    go_wp2_with fail
    go_ret
    exact ⟨rfl, HW4.out⟩
  have iB2 : decide (B2 < 0) = false := decide_eq_false hB2
  by_cases hA3 : A3 < 0
  · have iA3 : decide (A3 < 0) = true := decide_eq_true hA3
    clear e1 e2 e3 e4 e5 e6
    go_wp2_with fail
    go_ret
    exact ⟨rfl, HW4.out⟩
  have iA3 : decide (A3 < 0) = false := decide_eq_false hA3
  by_cases hB3 : B3 < 0
  · have iB3 : decide (B3 < 0) = true := decide_eq_true hB3
    clear e1 e2 e3 e4 e5 e6
    go_wp2_with fail
    go_ret
    exact ⟨rfl, HW4.out⟩
  have iB3 : decide (B3 < 0) = false := decide_eq_false hB3
  have hsa := small_of HA.out HR1.out
  have hsb := small_of HB.out HR2.out
  have hpa : a.Pos := ⟨by rw [e3]; omega, by rw [e1]; omega, by rw [e2]; omega⟩
  have hpb : b.Pos := ⟨by rw [e6]; omega, by rw [e4]; omega, by rw [e5]; omega⟩
  have HFA := Lib.hid (fit_of HA.out HR1.out)
  have HFB := Lib.hid (fit_of HB.out HR2.out)
  have HPA4 := Lib.hid (HPA.out.below HW4.out)
  have HPB4 := Lib.hid (HPB.out.below HW4.out)
  have HS := Lib.hid (fun w' h1 h2 => ref_same9 a b po qo pc qc w' HA.out.ok HB.out.ok h1 h2 (by have := HA.out.many; omega) (by have := HB.out.many; omega))
  obtain ⟨z, hz⟩ : ∃ z, decide (a = b) = z := ⟨_, rfl⟩
  have hst : (opB a == opB b) = z := by
    rw [← hz, Bool.eq_iff_iff, beq_iff_eq, decide_eq_true_eq]
    exact ⟨fun h => opB_inj hsa hsb hpa hpb h, fun h => by rw [h]⟩
  rw [hz] at HS
  have HU1 := Lib.hid (fun w' h => dev_text9 a po pc w' HFA.out h)
  have HU2 := Lib.hid (fun w' h => dev_text9 b qo qc w' HFB.out h)
  have HN1 := Lib.hid (fun w' h k => dev_name9 a po pc w' HFA.out h k)
  have HN2 := Lib.hid (fun w' h k => dev_name9 b qo qc w' HFB.out h k)
  have HM1 := Lib.hid (fun w' h => ref_name9 a po pc w' HFA.out h)
  have HM2 := Lib.hid (fun w' h => ref_name9 b qo qc w' HFB.out h)
  have hno := nameN_ok a
  have hmo := nameN_ok b
  obtain ⟨U, hU⟩ : ∃ T, opB a = T := ⟨_, rfl⟩
  obtain ⟨V, hV⟩ : ∃ T, opB b = T := ⟨_, rfl⟩
  obtain ⟨N, hN⟩ : ∃ T, nameN a = T := ⟨_, rfl⟩
  obtain ⟨M, hM⟩ : ∃ T, nameN b = T := ⟨_, rfl⟩
  rw [hU] at HU1 hst
  rw [hV] at HU2 hst
  rw [hN] at HN1 HM1 hno
  rw [hM] at HN2 HM2 hmo
  have HQT := Lib.hid (show ∀ w, (binOp .eql 9 (.string ⟨U.toArray⟩) (.string ⟨V.toArray⟩)).run Tryd.prog w = .ok (.bool z) w from fun w => by rw [eql_text9, hst])
  obtain ⟨p, hp⟩ : ∃ p, (N == M) = p := ⟨_, rfl⟩
  have HQN := Lib.hid (show ∀ w, (binOp .eql 25 (.agg (nums .u8 N).toArray) (.agg (nums .u8 M).toArray)).run Tryd.prog w = .ok (.bool p) w from fun w => by rw [eql_id9 N M hno hmo, hp])
  have HK4 := Lib.hid (HK.out.below HW4.out)
  clear hsa hsb hpa hpb hz hst hU hV hN hM hno hmo hp e1 e2 e3 e4 e5 e6 HPA HPB
  go_wp2_with (first
    | (refine wpList_load_cells rfl 30 _ rfl ga (opV a po pc) 30 _ rfl HX4.out Tryd.underlying30 rfl HSA.out ?_)
    | (refine wpList_load_cells rfl 30 _ rfl gb (opV b qo qc) 30 _ rfl HY4.out Tryd.underlying30 rfl HSB.out ?_))
  refine (HS.out w4 HPA4.out HPB4.out).mono ?_
  rintro e w5 ⟨rfl, hb⟩
  have HC1 := Lib.hid (fun (w' : World) (q : SS w5 w') => (HX4.out.below hb).below q.1)
  have HC2 := Lib.hid (fun (w' : World) (q : SS w5 w') => (HY4.out.below hb).below q.1)
  have HI1 := Lib.hid (fun (w' : World) (q : SS w5 w') => (HPA4.out.below hb).below q.1)
  have HI2 := Lib.hid (fun (w' : World) (q : SS w5 w') => (HPB4.out.below hb).below q.1)
  have HW5 := Lib.hid (HW4.out.trans (hb.mono HW4.out.size))
  have HK5 := Lib.hid (HK4.out.below hb)
  clear hb HX4 HY4 HPA4 HPB4 HW4 HK4 HS c0 c35 c36 d0 d35 d36
  cases z <;> cases p
  all_goals
    go_upto_region 6 with (fail)
    refine wp_region_class (fun w' => SS w5 w') (by kernel_rfl) (by kernel_rfl) (SS.start HK5.out) ?_
    repeat (first
      | go_big_quiet_skip
      | (go_big_quiet_want; refine quiet_load_cells 30 _ rfl ga (opV a po pc) 30 _ rfl HC1.out Tryd.underlying30 rfl HSA.out ?_; go_big_quiet_on; simp only [Act.put, List.setIfInBounds_toArray, List.set_cons_zero, List.set_cons_succ])
      | (go_big_quiet_want; refine quiet_load_cells 30 _ rfl gb (opV b qo qc) 30 _ rfl HC2.out Tryd.underlying30 rfl HSB.out ?_; go_big_quiet_on; simp only [Act.put, List.setIfInBounds_toArray, List.set_cons_zero, List.set_cons_succ])
      | (go_big_quiet_want; refine quiet_bin .eql 9 9 _ _ rfl (.string ⟨U.toArray⟩) (.string ⟨V.toArray⟩) _ rfl rfl (guard_text9 .eql (.inr rfl) _ _ _ _) HQT.out ?_; go_big_quiet_on; simp only [Act.put, List.setIfInBounds_toArray, List.set_cons_zero, List.set_cons_succ])
      | (go_big_quiet_want; refine quiet_bin .eql 25 25 _ _ rfl (.agg (nums .u8 N).toArray) (.agg (nums .u8 M).toArray) _ rfl rfl (guard_id9 .eql _ _ _ _) HQN.out ?_; go_big_quiet_on; simp only [Act.put, List.setIfInBounds_toArray, List.set_cons_zero, List.set_cons_succ])
      | go_big_quiet_step ((intro hs'; first
          | (go_at_call_of 9 (Value.agg (opV a po pc)); exact (HU1.out _ (HI1.out _ hs')).mono fun e w' h => ⟨h.1, hs'.next h.2⟩)
          | (go_at_call_of 9 (Value.agg (opV b qo qc)); exact (HU2.out _ (HI2.out _ hs')).mono fun e w' h => ⟨h.1, hs'.next h.2⟩)
          | (go_at_call_of 11 (Value.agg (opV a po pc)); exact (HN1.out _ (HI1.out _ hs') hs'.2).mono fun e w' h => ⟨h.1, hs'.next h.2⟩)
          | (go_at_call_of 11 (Value.agg (opV b qo qc)); exact (HN2.out _ (HI2.out _ hs') hs'.2).mono fun e w' h => ⟨h.1, hs'.next h.2⟩)
          | (go_at_call_of 12 (Value.agg (opV a po pc)); exact (HM1.out _ (HI1.out _ hs')).mono fun e w' h => ⟨h.1, hs'.next h.2⟩)
          | (go_at_call_of 12 (Value.agg (opV b qo qc)); exact (HM2.out _ (HI2.out _ hs')).mono fun e w' h => ⟨h.1, hs'.next h.2⟩)
          | rfl)))
  all_goals
    refine wpQuiet_nil ?_
    intro w6 hs6
    go_wp2_with fail
    go_ret
    exact ⟨rfl, HW5.out.trans (hs6.1.mono HW5.out.size)⟩
end Go.Proofs.YthgfpojfnhkckaaDoor.opOne
