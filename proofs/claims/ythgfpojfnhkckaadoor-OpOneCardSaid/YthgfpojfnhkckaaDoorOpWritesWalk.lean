/-
  The walk of OpWrites.
-/
import Derived.Test.YthgfpojfnhkckaaDoorAlive9
import Derived.Test.YthgfpojfnhkckaaDoorGreat9
import Derived.Test.YthgfpojfnhkckaaDoorOpArgs
import Derived.Test.YthgfpojfnhkckaaDoorOpBat
import Derived.Test.YthgfpojfnhkckaaDoorOpBatR
namespace Go.Proofs.YthgfpojfnhkckaaDoor.opWrites
open Go.RowKit Go.BigFrame Go.Proofs.YthgfpojfnhkckaaDoor

theorem fit_of {o : OpN} (h : o.In) (hg : great9N o = false) : o.Fit := by
  unfold great9N at hg
  have h1 := of_decide_eq_false hg
  exact ⟨⟨h.d.ref, h.d.low, h.d.high, by omega, by omega⟩, h.alow, h.ahigh, h.dlow, h.dhigh, h.preds, by omega⟩
theorem neq_id9 (a : List Nat) (ha : IdOk a) (w : World) : (binOp .neq 25 (.agg (nums .u8 a).toArray) (.agg (nums .u8 a).toArray)).run Tryd.prog w = .ok (.bool false) w := by
  rw [run_neq_struct, equal_idI a a ha.1 ha.1 ha.2 ha.2]
  simp
theorem guard_id9 (op : BinOp) (x y : Operand) (u v : Array Value) (w : World) : (eqGuard op 25 x y (.agg u) (.agg v)).run Tryd.prog w = .ok () w := run_eqGuard_agg w op 25 x y u v (by kernel_rfl)
theorem neq_text9 (a : List UInt8) (w : World) : (binOp .neq 9 (.string ⟨a.toArray⟩) (.string ⟨a.toArray⟩)).run Tryd.prog w = .ok (.bool false) w := by
  go_simp
theorem guard_text9 (op : BinOp) (h : op = .neq ∨ op = .eql) (x y : Operand) (a b : ByteArray) (w : World) : (eqGuard op 9 x y (.string a) (.string b)).run Tryd.prog w = .ok () w := by
  rcases h with rfl | rfl <;> go_simp
set_option maxHeartbeats 8000000 in
set_option maxRecDepth 100000 in
theorem walk (w : World) (hk : KAt w) (ao : Option Addr) (L : List OpN) (c : Nat) (hp : OpsAt ao L w) (hL : ∀ x ∈ L, x.In) (hn : L.length ≤ 140737488351232) :
    Calls Tryd.prog 3 #[.slice ao L.length c] w fun e w' => e = .returned (.bool true) ∧ Below w.heap.size w w' := by
  have HP := Lib.hid hp
  have HIN := Lib.hid hL
  have HK := Lib.hid hk
  obtain ⟨n, hnn⟩ : ∃ n, L.length = n := ⟨_, rfl⟩
  have HNN := Shut.mk hnn
  rw [hnn] at hn ⊢
  clear hp hL hnn hk
  go_enter Tryd.func3, Tryd.ntmps3
  go_wp2_with fail
  refine (alive9_any w).mono ?_
  rintro e w1 ⟨rfl, hb⟩
  have HB1 := Lib.hid hb
  have HZO := Lib.hid (show (Tryd.prog.info? 30).bind (·.zero) = some (.agg (opL zeroO none 0).toArray) by kernel_rfl)
  clear hb
  by_cases h10 : 10 < n
  · have h10i : (10 : Int) < (n : Int) := by omega
    go_wp2_with fail
    go_ret
    exact ⟨rfl, HB1.out⟩
  have h10i : ¬ (10 : Int) < (n : Int) := by omega
  have h10n : n ≤ 10 := by omega
  clear h10
  go_wp2_with fail
  go_loopw [12] (fun i wr => ∃ k : Nat, k ≤ n ∧ i = .int .i64 k ∧ (∀ o ∈ L.take k, o.Fit) ∧ Below w.heap.size w wr) (fun i _ => n - (intOf i).toNat)
  case atStart => exact ⟨0, Nat.zero_le _, rfl, fun o ho => by simp at ho, HB1.out⟩
  case round =>
    obtain ⟨k, hk, rfl, hthru, hb⟩ := hrel
    have HTHR := Lib.hid hthru
    have HBW := Lib.hid hb
    have HPW := Lib.hid (HP.out.below hb)
    clear hthru hb
    by_cases hlt : k < n
    · obtain ⟨y, hy⟩ : ∃ y, L[k]? = some y := ⟨_, List.getElem?_eq_getElem (by rw [HNN.out]; exact hlt)⟩
      have HYI := Lib.hid (HIN.out y (List.mem_of_getElem? hy))
      have HTK := Lib.hid (show L.take (k + 1) = L.take k ++ [y] by
        have h1 : L[k]'(by rw [HNN.out]; exact hlt) = y := by
          rw [List.getElem?_eq_getElem (by rw [HNN.out]; exact hlt)] at hy
          exact Option.some.inj hy
        rw [List.take_succ_eq_append_getElem (by rw [HNN.out]; exact hlt), h1])
      obtain ⟨b, ob, rfl, hbl, pa, pc, hr, hia⟩ := HPW.out.get hy
      have HR := Lib.hid hr
      have HIA := Lib.hid hia
      have HSO := Lib.hid (show (Tryd.prog.info? 30).map (·.size) = some (opL y pa pc).length by rw [opL_len HYI.out.ok.ref.1]; exact Tryd.sizeO)
      have HSV := Lib.hid (show (Tryd.prog.info? 30).map (·.size) = some (opV y pa pc).size by rw [opV_size HYI.out.ok.ref.1]; exact Tryd.sizeO)
      have HSZ := Lib.hid (show (opV zeroO none 0).size = (opV y pa pc).size by rw [opV_size HYI.out.ok.ref.1]; rfl)
      clear hy hr hia hbl
      go_wp2_with (first
        | (refine wpList_load_mid rfl 30 _ rfl b (ob + k * 38) rfl _ _ HR.out Tryd.underlying30 rfl HSO.out ?_)
        | (refine wpList_alloc_of rfl 30 rfl (opL zeroO none 0) HZO.out ?_)
        | (refine wpList_store_cells rfl 30 _ _ rfl rfl wr.heap.size (opV zeroO none 0) (opV y pa pc) 30 rfl rfl (heap_alloc_new wr _) HSV.out HSZ.out (opV_all y pa pc) ?_))
      intro w4 hc hb
      have hb4 : Below wr.heap.size wr w4 := But.toBelow ((Below.refl _ wr).alloc (Nat.le_refl _) _) hb.out (Nat.le_refl _) (by rw [World.size_alloc]; exact Nat.le_succ _)
      have HC4 := Lib.hid hc.out
      have HB4 := Lib.hid (HBW.out.trans (hb4.mono HBW.out.size))
      have HIA4 := Lib.hid (HIA.out.below hb4)
      obtain ⟨g5, hg5⟩ : ∃ g, wr.heap.size = g := ⟨_, rfl⟩
      rw [hg5] at HC4 ⊢
      clear hc hb hb4 HBW HIA HR HSO hg5
      have HG := Lib.hid (fun w' => great9_any y pa pc w' HYI.out.d.ref.1 (by have := HYI.out.many; omega) HYI.out.d.key HYI.out.d.val)
      obtain ⟨gr, hgr⟩ : ∃ g, great9N y = g := ⟨_, rfl⟩
      rw [hgr] at HG
      have HGR := Shut.mk hgr
      clear hgr
      go_wp2_with (refine wpList_load_cells rfl 30 _ rfl g5 (opV y pa pc) 30 _ rfl HC4.out Tryd.underlying30 rfl HSV.out ?_)
      refine (HG.out w4).mono ?_
      rintro e w5 ⟨rfl, hb⟩
      have HC5 := Lib.hid (HC4.out.below hb)
      have HB5 := Lib.hid (HB4.out.trans (hb.mono HB4.out.size))
      have HIA5 := Lib.hid (HIA4.out.below hb)
      clear hb HC4 HB4 HIA4 HG
      cases gr with
      | true =>
        go_wp2_with fail
        go_ret
        exact ⟨rfl, HB5.out⟩
      | false =>
      have HFIT := Lib.hid (fit_of HYI.out HGR.out)
      have hg := HC5.out.lt
      have HSD := Lib.hid (show (Tryd.prog.info? 27).map (·.size) = some (draftL y.d).length by rw [draftL_len HYI.out.ok.ref.1]; exact Tryd.sizeD)
      have HT1 := Lib.hid (fun w' => dev_draftText y.d HFIT.out.d w')
      have HT2 := Lib.hid (fun w' => ref_draftText y.d HFIT.out.d w')
      have HU1 := Lib.hid (fun w' (q : SS w5 w') => dev_text9 y pa pc w' HFIT.out (HIA5.out.below q.1))
      have HU2 := Lib.hid (fun w' (q : SS w5 w') => ref_text9 y pa pc w' HFIT.out (HIA5.out.below q.1))
      have HN1 := Lib.hid (fun w' (q : SS w5 w') => dev_name9 y pa pc w' HFIT.out (HIA5.out.below q.1) q.2)
      have HN2 := Lib.hid (fun w' (q : SS w5 w') => ref_name9 y pa pc w' HFIT.out (HIA5.out.below q.1))
      obtain ⟨T, hT⟩ : ∃ T, draftB y.d = T := ⟨_, rfl⟩
      obtain ⟨U, hU⟩ : ∃ T, opB y = T := ⟨_, rfl⟩
      have hnok := nameN_ok y
      obtain ⟨N, hN⟩ : ∃ T, nameN y = T := ⟨_, rfl⟩
      rw [hT] at HT1 HT2
      rw [hU] at HU1 HU2
      rw [hN] at HN1 HN2 hnok
      have HNOK := Lib.hid hnok
      have HC0 := Lib.hid (fun (w' : World) (q : SS w5 w') => show w'.rangeAt g5 0 (draftL y.d) from rangeAt_belowI (op_cells HYI.out.ok.ref.1 HC5.out).1 q.1 hg)
      have HC1 := Lib.hid (fun (w' : World) (q : SS w5 w') => HC5.out.below q.1)
      have HK5 := Lib.hid (HK.out.below HB5.out)
      clear hT hU hN hnok hg HC5 HIA5
      go_upto_region 10 with (fail)
      refine wp_region_class (fun w' => SS w5 w') (by kernel_rfl) (by kernel_rfl) (SS.start HK5.out) ?_
      repeat (first
        | go_big_quiet_skip
        | (go_big_quiet_want; refine quiet_load_row 27 _ rfl g5 0 (draftL y.d) _ rfl HC0.out Tryd.underlying27 rfl HSD.out ?_; go_big_quiet_on; simp only [Act.put, List.setIfInBounds_toArray, List.set_cons_zero, List.set_cons_succ])
        | (go_big_quiet_want; refine quiet_load_cells 30 _ rfl g5 (opV y pa pc) 30 _ rfl HC1.out Tryd.underlying30 rfl HSV.out ?_; go_big_quiet_on; simp only [Act.put, List.setIfInBounds_toArray, List.set_cons_zero, List.set_cons_succ])
        | (go_big_quiet_want; refine quiet_bin .neq 9 9 _ _ rfl (.string ⟨T.toArray⟩) (.string ⟨T.toArray⟩) _ rfl rfl (guard_text9 .neq (.inl rfl) _ _ _ _) (neq_text9 T) ?_; go_big_quiet_on; simp only [Act.put, List.setIfInBounds_toArray, List.set_cons_zero, List.set_cons_succ])
        | (go_big_quiet_want; refine quiet_bin .neq 9 9 _ _ rfl (.string ⟨U.toArray⟩) (.string ⟨U.toArray⟩) _ rfl rfl (guard_text9 .neq (.inl rfl) _ _ _ _) (neq_text9 U) ?_; go_big_quiet_on; simp only [Act.put, List.setIfInBounds_toArray, List.set_cons_zero, List.set_cons_succ])
        | (go_big_quiet_want; refine quiet_bin .neq 25 25 _ _ rfl (.agg (nums .u8 N).toArray) (.agg (nums .u8 N).toArray) _ rfl rfl (guard_id9 .neq _ _ _ _) (neq_id9 N HNOK.out) ?_; go_big_quiet_on; simp only [Act.put, List.setIfInBounds_toArray, List.set_cons_zero, List.set_cons_succ])
        | go_big_quiet_step ((intro hs'; first
            | (go_at_call 7; exact (HT1.out _).mono fun e w' h => ⟨h.1, hs'.next h.2⟩)
            | (go_at_call 8; exact (HT2.out _).mono fun e w' h => ⟨h.1, hs'.next h.2⟩)
            | (go_at_call 9; exact (HU1.out _ hs').mono fun e w' h => ⟨h.1, hs'.next h.2⟩)
            | (go_at_call 10; exact (HU2.out _ hs').mono fun e w' h => ⟨h.1, hs'.next h.2⟩)
            | (go_at_call 11; exact (HN1.out _ hs').mono fun e w' h => ⟨h.1, hs'.next h.2⟩)
            | (go_at_call 12; exact (HN2.out _ hs').mono fun e w' h => ⟨h.1, hs'.next h.2⟩)
            | rfl)))
      refine wpQuiet_nil ?_
      intro w6 hs6
      have HB6 := Lib.hid (HB5.out.trans (hs6.1.mono HB5.out.size))
      clear hs6 HB5
      go_wp2_with fail
      exact ⟨⟨k + 1, by omega, by go_num, by
        rw [HTK.out]
        intro q hq
        rcases List.mem_append.1 hq with hq | hq
        · exact HTHR.out q hq
        · obtain rfl := List.mem_singleton.1 hq
          exact HFIT.out, HB6.out⟩, by simp [intOf]; omega⟩
    · obtain rfl : k = n := by omega
      have hfull : L.take k = L := List.take_of_length_le (by rw [HNN.out]; exact Nat.le_refl _)
      have hth : ∀ o ∈ L, o.Fit := fun o ho => HTHR.out o (by rw [hfull]; exact ho)
      have HBT := Lib.hid (fun w' h => dev_batch ao L c w' hth (by rw [HNN.out]; exact h10n) h)
      have HBR := Lib.hid (fun w' h => ref_batch ao L c w' hth (by rw [HNN.out]; exact h10n) h)
      obtain ⟨T, hT⟩ : ∃ T, batchB L = T := ⟨_, rfl⟩
      rw [hT, HNN.out] at HBT HBR
      clear hT hth hfull
      go_wp2_with fail
      refine (HBT.out wr HPW.out).mono ?_
      rintro e w2 ⟨rfl, hb⟩
      have HB2 := Lib.hid (HBW.out.trans (hb.mono HBW.out.size))
      have HP2 := Lib.hid (HPW.out.below hb)
      clear hb HBW HPW HBT
      go_wp2_with fail
      refine (HBR.out w2 HP2.out).mono ?_
      rintro e w3 ⟨rfl, hb⟩
      have HB3 := Lib.hid (HB2.out.trans (hb.mono HB2.out.size))
      clear hb HB2
      go_wp2_with fail
      go_ret
      exact ⟨by simp, HB3.out⟩
end Go.Proofs.YthgfpojfnhkckaaDoor.opWrites
