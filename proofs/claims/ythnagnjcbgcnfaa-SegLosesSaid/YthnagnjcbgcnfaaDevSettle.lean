/-
  The developers' disk: settle.
-/
import Derived.Test.YthnagnjcbgcnfaaDevAt
namespace Go.Proofs.Ythnagnjcbgcnfaa
open Go.RowKit Go.BigFrame

def zeroW : List Value := wcells (0, List.replicate 128 0)
theorem zeroW_len : zeroW.length = 129 := wcells_len (p := (0, List.replicate 128 0)) (by simp)
theorem Try.infoWrite7 : (Try.prog.info? 81).map (fun i => (i.zero, i.size, i.bytes)) = some (some (.agg zeroW.toArray), 129, 136) := by kernel_rfl
theorem Try.zeroWrite7 : (Try.prog.info? 81).bind (·.zero) = some (.agg zeroW.toArray) := by kernel_rfl
theorem Try.sizeWrite7 : (Try.prog.info? 81).map (·.size) = some 129 := by kernel_rfl
section
variable {g gs n cs a : Nat} {vN vS vP : Value} {N S : List (List UInt8)} {P : List (Nat × List UInt8)} {off : Bool} {acts fuse keep : Nat} {w : World} {d : List UInt8}
/-- A sector is laid over the safe ones. -/
theorem DevAt.setSafe (h : DevAt g vN (.slice (some ⟨gs, 0, none⟩) n cs) vP N S P off acts fuse keep w) (hn : n = 128 * S.length) (hS : ∀ x ∈ S, x.length = 128) (ha : a < S.length) (hd : d.length = 128) :
    DevAt g vN (.slice (some ⟨gs, 0, none⟩) n cs) vP N (S.set a d) P off acts fuse keep (w.setCells gs (128 * a) (bv d)) := by
  have hb := But.cells (b := gs) (bv d) (128 * a) w (But.refl gs w)
  have h1 := RowV.block (K := 128) (by decide) (by rw [secs_flat hS]; exact hn) h.safe (secs_wide hS) (i := a) (by rw [secs_length]; exact ha) (x := bv d) (by rw [bv_len]; exact hd)
  rw [← secs_set] at h1
  exact ⟨h.cells.but hb (fun e => h.safe.notCells h.cells (by decide) (by rw [e]; rfl)), h.now.but hb (fun e => h.apart gs e rfl), h1, h.pend.but hb (fun e => h.pend.notRow h.safe (by decide) e rfl), h.apart⟩
/-- A sector is laid over what is there now. -/
theorem DevAt.setNow (h : DevAt g (.slice (some ⟨gs, 0, none⟩) n cs) vS vP N S P off acts fuse keep w) (hn : n = 128 * N.length) (hN : ∀ x ∈ N, x.length = 128) (ha : a < N.length) (hd : d.length = 128) :
    DevAt g (.slice (some ⟨gs, 0, none⟩) n cs) vS vP (N.set a d) S P off acts fuse keep (w.setCells gs (128 * a) (bv d)) := by
  have hb := But.cells (b := gs) (bv d) (128 * a) w (But.refl gs w)
  have h1 := RowV.block (K := 128) (by decide) (by rw [secs_flat hN]; exact hn) h.now (secs_wide hN) (i := a) (by rw [secs_length]; exact ha) (x := bv d) (by rw [bv_len]; exact hd)
  rw [← secs_set] at h1
  exact ⟨h.cells.but hb (fun e => h.now.notCells h.cells (by decide) (by rw [e]; rfl)), h1, h.safe.but hb (fun e => h.apart gs rfl e), h.pend.but hb (fun e => h.pend.notRow h.now (by decide) e rfl), h.apart⟩
theorem RowV.secThere {e : TypeId} (h : RowV e (.slice (some ⟨gs, 0, none⟩) n cs) (secs S).flatten w) (hn : n = 128 * S.length) (hS : ∀ x ∈ S, x.length = 128) (ha : a < S.length) : ∀ j, j < 128 → w.cell? ⟨gs, 128 * a + j, none⟩ = some (((bv (S.getD a []))[j]?).getD undef) := fun j hj => by
  have hl := (secs_wide hS).getD (i := a) (by rw [secs_length]; exact ha)
  rw [secs_getD ha] at hl
  rw [List.getElem?_eq_getElem (by omega)]
  exact h.blockAt (by rw [secs_flat hS]; exact hn) (secs_wide hS) (by rw [secs_length]; exact ha) hj (by rw [secs_getD ha, List.getElem?_eq_getElem (by omega)]; rfl)
theorem RowV.secFrozen {e : TypeId} (h : RowV e (.slice (some ⟨gs, 0, none⟩) n cs) (secs S).flatten w) (hn : n = 128 * S.length) (hS : ∀ x ∈ S, x.length = 128) (j : Nat) : w.frozen? ⟨gs, j, none⟩ = false := h.frozen (by rw [secs_flat hS]; exact hn) j
theorem RowV.secForm {e : TypeId} {v : Value} (h : RowV e v (secs S).flatten w) (hS : ∀ x ∈ S, x.length = 128) (h0 : 0 < S.length) : ∃ g cap, v = .slice (some ⟨g, 0, none⟩) (128 * S.length) cap ∧ 128 * S.length ≤ cap := by
  obtain ⟨ao, cap, hv, hc, hb⟩ := h.formC
  rw [secs_flat hS] at hv hc hb
  obtain ⟨g, rfl⟩ := hb (by omega)
  exact ⟨g, cap, hv, hc⟩
end

set_option maxHeartbeats 4000000 in
set_option maxRecDepth 100000 in
theorem dev_settle (g : Nat) (vN vS vP : Value) (N S : List (List UInt8)) (P : List (Nat × List UInt8)) (off : Bool) (acts fuse keep : Nat) (f : FuncId) (fn : Func) (caps : Array Value) (K : Nat → Bool) (w : World) (h : DevAt g vN vS vP N S P off acts fuse keep w)
    (hfn : Try.prog.funcs[f]? = some fn) (hname : (fn.name == "runtime.NumGoroutine") = false) (hbody : fn.body.isNone = false)
    (hK : ∀ i, i < P.length → ∀ w', Only (devO g vN vS vP) w w' → Calls Try.prog f (#[] ++ [Value.int .i64 (i : Int)].toArray ++ caps) w' fun e w'' => e = .returned (.bool (K i)) ∧ w'' = w')
    (hp : P.length ≤ 1000000) (hP : ∀ q ∈ P, q.1 < S.length ∧ q.2.length = 128) (hS : ∀ x ∈ S, x.length = 128) (hN : ∀ x ∈ N, x.length = 128) (hNS : N.length = S.length) (hs : S.length ≤ 16384) :
    Calls Try.prog 26 #[.pointer (some ⟨g, 0, none⟩), .func (.func f) #[] caps] w fun e w' => e = .returned (.tuple #[]) ∧ DevAt g vN vS (.slice none 0 0) (fixL (keptF K 0 P S) P N) (keptF K 0 P S) [] off acts fuse keep w' ∧ Only (devO g vN vS vP) w w' := by
  have c2 := h.field 2
  simp only [devV, List.getElem?_toArray, List.getElem?_cons_zero, List.getElem?_cons_succ] at c2
  obtain ⟨ap, cp, hvp⟩ := h.pend.form
  rw [wrows_len] at hvp
  rw [hvp] at c2
  have HVP := Shut.mk hvp
  have H := Lib.hid h
  have HK := Lib.hid hK
  have HP := Lib.hid hP
  have HSL := Lib.hid hS
  have HNL := Lib.hid hN
  have HNS := Shut.mk hNS
  have HS := Lib.hid hs
  obtain ⟨m, hm⟩ : ∃ m, P.length = m := ⟨_, rfl⟩
  have HM := Shut.mk hm
  rw [hm] at c2 hp HVP
  have H0 := Shut.mk (show keptF K 0 (P.take 0) S = S by simp [keptF])
  have HFN := Shut.mk hfn
  have HNM := Shut.mk hname
  have HBD := Shut.mk hbody
  clear h hvp hK hP hS hN hNS hs hm hfn hname hbody
  go_enter Try.func26, Try.ntmps26
  go_wp2_with fail
  go_loopw [13] (fun i wq => ∃ k : Nat, k ≤ m ∧ i = .int .i64 k ∧ DevAt g vN vS vP N (keptF K 0 (P.take k) S) P off acts fuse keep wq ∧ Only (devO g vN vS vP) w wq) (fun i _ => m - (intOf i).toNat)
  case atStart => exact ⟨0, by omega, rfl, by rw [H0.out]; exact H.out, Only.refl _ _⟩
  case round =>
    clear H c2
    obtain ⟨k, hkm, rfl, hr, ho⟩ := hrel
    have HR := Lib.hid hr
    have HO := Lib.hid ho
    clear hr ho
    by_cases hlk : k < m
    · have hlk2 : (k : Int) < (m : Int) := by omega
      have hkp : k < P.length := by rw [HM.out]; exact hlk
      have hpk := HP.out _ (List.getElem_mem hkp)
      obtain ⟨gp, cp', hvp2⟩ := HR.out.pend.formB (by rw [wrows_len, HM.out]; omega)
      rw [wrows_len, HM.out] at hvp2
      obtain rfl : ap = some ⟨gp, 0, none⟩ := by rw [HVP.out] at hvp2; injection hvp2
      obtain rfl : cp = cp' := by rw [HVP.out] at hvp2; injection hvp2
      subst hvp2
      have hat := HR.out.pend.at (by rw [wrows_len, HM.out]) (wrows_wide (fun q hq => (HP.out q hq).2)) (i := k) (by rw [wrows_len]; exact hkp)
      rw [wrows_getD hkp, Nat.mul_comm 129 k] at hat
      obtain ⟨a, hae⟩ : ∃ a, (P[k]).1 = a := ⟨_, rfl⟩
      obtain ⟨d, hde⟩ : ∃ d, (P[k]).2 = d := ⟨_, rfl⟩
      have hwc : wcells P[k] = wcells (a, d) := by rw [← hae, ← hde]
      rw [hwc] at hat
      rw [hae, hde] at hpk
      have HAT := Lib.hid hat
      have hvl := wcells_len (p := (a, d)) hpk.2
      have HI := Lib.hid (show (Try.prog.info? 81).map (·.size) = some (wcells (a, d)).length by rw [hvl]; exact Try.sizeWrite7)
      have HI2 := Lib.hid (show (Try.prog.info? 81).map (·.size) = some (wcells (a, d)).toArray.size by rw [List.size_toArray, hvl]; exact Try.sizeWrite7)
      have HV1 := Lib.hid (all_oneCell_toArray (wcells_one (a, d)))
      have HZS := Shut.mk (show zeroW.toArray.size = (wcells (a, d)).toArray.size by rw [List.size_toArray, List.size_toArray, hvl, zeroW_len])
      have HZN := Lib.hid (show Cells wr.heap.size 81 zeroW.toArray (wr.alloc (.cells zeroW.toArray 81)) from heap_alloc_new wr _)
      have HVL := Shut.mk hvl
      obtain ⟨V, hV⟩ : ∃ V, wcells (a, d) = V := ⟨_, rfl⟩
      rw [hV] at HAT HI HI2 HV1 HZS HVL
      have HV := Shut.mk hV
      obtain ⟨Z, hZ⟩ : ∃ Z, zeroW = Z := ⟨_, rfl⟩
      have HZ := Lib.hid Try.zeroWrite7
      rw [hZ] at HZ HZS HZN
      have HT := Shut.mk (keptF_take K P S 0 k hkp)
      rw [hae, hde, Nat.zero_add] at HT
      clear hat hwc hvl hV hZ hae hde hkp
      go_wp2_with (first
        | (refine wpList_load_mid rfl 81 _ rfl gp (k * 129) rfl V _ HAT.out Try.underlying81 rfl HI.out ?_)
        | (refine wpList_alloc_of rfl 81 rfl Z HZ.out ?_)
        | (refine wpList_store_cells rfl 81 _ _ rfl rfl wr.heap.size _ V.toArray 81 rfl rfl HZN.out HI2.out HZS.out HV1.out ?_))
      intro w5 hc5 hb5
      have hb55 : Below wr.heap.size wr w5 := But.toBelow ((Below.refl _ _).alloc (Nat.le_refl _) (.cells Z.toArray 81)) hb5.out (Nat.le_refl _) (by simp)
      have HC5 := Lib.hid hc5.out
      have HR5 := Lib.hid (HR.out.below hb55)
      have HO5 := Lib.hid (HO.out.below hb55)
      have HG5 := Lib.hid (HO.out.size)
      have HKK := Lib.hid (HK.out k (by rw [HM.out]; exact hlk) w5 HO5.out)
      have hN0 : (keptF K 0 (P.take k) S).length = S.length := keptF_len _ _ _ _
      have hok := keptF_ok K (P.take k) 0 S (fun q hq => (HP.out q (List.mem_of_mem_take hq)).2) HSL.out
      obtain ⟨gs, cs, hvs, hcs⟩ := HR5.out.safe.secForm hok (by rw [hN0]; have := hpk.1; omega)
      have HPK := Lib.hid hpk
      have HN0 := Shut.mk hN0
      have HOK := Lib.hid hok
      rw [hN0] at hvs hcs
      subst hvs
      obtain ⟨g5, hg5⟩ : ∃ g5, wr.heap.size = g5 := ⟨_, rfl⟩
      rw [hg5] at HC5
      have HG := Shut.mk hg5
      clear hc5 hb5 hb55 HR HO HAT HI HI2 HV1 HZS HZN hpk hN0 hok
      rw [hg5]
      clear hg5
      obtain ⟨b, hb⟩ : ∃ b, K k = b := ⟨_, rfl⟩
      rw [hb] at HKK HT
      clear hb
      cases b with
      | false =>
        rw [if_neg (by decide)] at HT
        go_wp2_with (refine wpList_call_fv rfl HFN.out HNM.out HBD.out (.tmp 18) _ _ rfl #[] caps rfl [.int .i64 (k : Int)] rfl HKK.out ?_)
        exact ⟨⟨k + 1, by omega, by go_num, by rw [HT.out]; exact HR5.out, HO5.out⟩, by simp [intOf]; omega⟩
      | true =>
        rw [if_pos rfl] at HT
        go_upto_region 4 with (refine wpList_call_fv rfl HFN.out HNM.out HBD.out (.tmp 18) _ _ rfl #[] caps rfl [.int .i64 (k : Int)] rfl HKK.out ?_)
        clear HKK
        have HQ0 := Lib.hid (fun (w' : World) (h : Below w5.heap.size w5 w') => HR5.out.below h)
        have HC1 := Lib.hid (fun (w' : World) (h : Below w5.heap.size w5 w') => show w'.cell? ⟨g, 1, none⟩ = some (.slice (some ⟨gs, 0, none⟩) (128 * S.length) cs) from (HQ0.out w' h).field 1)
        have HCA := Lib.hid (fun (w' : World) (h : Below w5.heap.size w5 w') => show w'.cell? ⟨g5, 0, none⟩ = some (.int .i64 (a : Int)) by
          rw [(HC5.out.below h).at 0, ← HV.out]
          rfl)
        have HSC := Lib.hid (fun w' => dev_sector gs (128 * S.length) cs a w' (by have := HPK.out.1; omega) hcs (by have := HS.out; omega))
        refine wp_region_class_tail (fun w' => Below w5.heap.size w5 w') 9 (by kernel_rfl) (by kernel_rfl) (Below.refl _ _).drew ?_
        simp only [List.take_succ_cons, List.take_zero, List.drop_succ_cons, List.drop_zero]
        repeat (first
          | (go_big_quiet_want; refine quiet_load_cell 40 _ rfl ⟨g, 1, none⟩ _ rfl HC1.out Try.isAgg40 ?_; go_big_quiet_on; simp only [Act.put, List.setIfInBounds_toArray, List.set_cons_zero, List.set_cons_succ])
          | (go_big_quiet_want; refine quiet_load_cell 3 _ rfl ⟨g5, 0, none⟩ _ rfl HCA.out Try.isAgg3 ?_; go_big_quiet_on; simp only [Act.put, List.setIfInBounds_toArray, List.set_cons_zero, List.set_cons_succ])
          | go_big_quiet_step ((intro hs'; first
              | rfl
              | (go_at_call 29; exact (HSC.out _).mono fun e w' h => ⟨h.1, by rw [h.2]; exact hs'⟩))))
        refine wpQuiet_nil ?_
        intro w6 hs6
        have HR6 := Lib.hid (HR5.out.below hs6)
        have HO6 := Lib.hid (HO5.out.below hs6)
        have HS6 := Lib.hid (fun j v (hj : (bv d)[j]? = some v) => show w6.cell? ((⟨g5, 1, none⟩ : Addr).add j) = some v by
          rw [Addr.add_mid, (HC5.out.below hs6).at, ← HV.out, wcells, List.getElem?_toArray, Nat.add_comm, List.getElem?_cons_succ]
          exact hj)
        have HDL := Shut.mk (show (bv d).length = Nat.min 128 128 by rw [bv_len]; exact HPK.out.2)
        have HDC := Lib.hid (fun j (hj : j < (bv d).length) => show (w6.cell? ⟨gs, 128 * a + j, none⟩).isSome = true by
          rw [HR6.out.safe.secThere (by rw [HN0.out]) HOK.out (by rw [HN0.out]; exact HPK.out.1) j (by rw [HDL.out] at hj; exact hj)]
          rfl)
        have HDF := Lib.hid (fun j (_ : j < (bv d).length) => show w6.frozen? ⟨gs, 128 * a + j, none⟩ = false from HR6.out.safe.secFrozen (by rw [HN0.out]) HOK.out _)
        have HD1 := Lib.hid (bv_one d)
        clear hs6 HQ0 HC1 HCA HSC HR5 HO5
        refine wpList_copy_cells rfl (.tmp 27) (.tmp 29) 40 40 rfl 5 Try.underlying40 (by kernel_rfl) gs (128 * a) 128 (cs - 128 * a) ⟨g5, 1, none⟩ 128 128 (bv d) rfl rfl HDL.out HS6.out HDC.out HDF.out HD1.out ?_
        have HR7 := Lib.hid (HR6.out.setSafe (by rw [HN0.out]) HOK.out (a := a) (d := d) (by rw [HN0.out]; exact HPK.out.1) HPK.out.2)
        rw [← HT.out] at HR7
        have HO7 := Lib.hid (HO6.out.but (But.cells (b := gs) (bv d) (128 * a) w6 (But.refl gs w6)) (.inl (.inr (.inr (.inl rfl)))))
        obtain ⟨w7, hw7⟩ : ∃ x, x = w6.setCells gs (128 * a) (bv d) := ⟨_, rfl⟩
        rw [← hw7] at HR7 HO7 ⊢
        clear hw7 HR6 HO6 HS6 HDL HDC HDF HD1 HT
        go_wp2_with fail
        exact ⟨⟨k + 1, by omega, by go_num, HR7.out, HO7.out⟩, by simp [intOf]; omega⟩
    · obtain rfl : k = m := by omega
      have hnw : ¬ (k : Int) < (k : Int) := by omega
      have hS' := keptF_ok K P 0 S (fun q hq => (HP.out q hq).2) HSL.out
      have hS'l : (keptF K 0 P S).length = S.length := keptF_len _ _ _ _
      have HR' := Lib.hid (show DevAt g vN vS vP N (keptF K 0 P S) P off acts fuse keep wr by
        have h := HR.out
        rw [← HM.out, List.take_length] at h
        exact h)
      clear HR HSL H0 HK HFN HNM HBD
      have c2 := HR'.out.field 2
      simp only [devV, List.getElem?_toArray, List.getElem?_cons_zero, List.getElem?_cons_succ] at c2
      rw [HVP.out] at c2
      have HSL := Lib.hid hS'
      have HSN := Shut.mk hS'l
      have H0 := Shut.mk (show fixL (keptF K 0 P S) (P.take 0) N = N by simp [fixL])
      obtain ⟨S', hS'e⟩ : ∃ S', keptF K 0 P S = S' := ⟨_, rfl⟩
      rw [hS'e] at HR' HSL HSN H0
      have HSE := Shut.mk hS'e
      clear hS' hS'l hS'e hlk
      go_wp2_with fail
      go_loopw [37] (fun i wq => ∃ q : Nat, q ≤ k ∧ i = .int .i64 q ∧ DevAt g vN vS vP (fixL S' (P.take q) N) S' P off acts fuse keep wq ∧ Only (devO g vN vS vP) w wq) (fun i _ => k - (intOf i).toNat)
      case atStart => exact ⟨0, by omega, rfl, by rw [H0.out]; exact HR'.out, HO.out⟩
      case round =>
        clear HR' c2 HO
        obtain ⟨q, hqm, rfl, hr, ho⟩ := hrel
        have HR := Lib.hid hr
        have HO := Lib.hid ho
        clear hr ho
        by_cases hlq : q < k
        · have hlq2 : (q : Int) < (k : Int) := by omega
          have hkp : q < P.length := by rw [HM.out]; exact hlq
          have hpk := HP.out _ (List.getElem_mem hkp)
          obtain ⟨gp, cp', hvp2⟩ := HR.out.pend.formB (by rw [wrows_len, HM.out]; omega)
          rw [wrows_len, HM.out] at hvp2
          obtain rfl : ap = some ⟨gp, 0, none⟩ := by rw [HVP.out] at hvp2; injection hvp2
          obtain rfl : cp = cp' := by rw [HVP.out] at hvp2; injection hvp2
          subst hvp2
          have hat := HR.out.pend.at (by rw [wrows_len, HM.out]) (wrows_wide (fun q hq => (HP.out q hq).2)) (i := q) (by rw [wrows_len]; exact hkp)
          rw [wrows_getD hkp, Nat.mul_comm 129 q] at hat
          obtain ⟨a, hae⟩ : ∃ a, (P[q]).1 = a := ⟨_, rfl⟩
          obtain ⟨d, hde⟩ : ∃ d, (P[q]).2 = d := ⟨_, rfl⟩
          have hwc : wcells P[q] = wcells (a, d) := by rw [← hae, ← hde]
          rw [hwc] at hat
          rw [hae, hde] at hpk
          have HAT := Lib.hid hat
          have hvl := wcells_len (p := (a, d)) hpk.2
          have HI := Lib.hid (show (Try.prog.info? 81).map (·.size) = some (wcells (a, d)).length by rw [hvl]; exact Try.sizeWrite7)
          have HI2 := Lib.hid (show (Try.prog.info? 81).map (·.size) = some (wcells (a, d)).toArray.size by rw [List.size_toArray, hvl]; exact Try.sizeWrite7)
          have HV1 := Lib.hid (all_oneCell_toArray (wcells_one (a, d)))
          have HZS := Shut.mk (show zeroW.toArray.size = (wcells (a, d)).toArray.size by rw [List.size_toArray, List.size_toArray, hvl, zeroW_len])
          have HZN := Lib.hid (show Cells wr.heap.size 81 zeroW.toArray (wr.alloc (.cells zeroW.toArray 81)) from heap_alloc_new wr _)
          obtain ⟨V, hV⟩ : ∃ V, wcells (a, d) = V := ⟨_, rfl⟩
          rw [hV] at HAT HI HI2 HV1 HZS
          have HV := Shut.mk hV
          obtain ⟨Z, hZ⟩ : ∃ Z, zeroW = Z := ⟨_, rfl⟩
          have HZ := Lib.hid Try.zeroWrite7
          rw [hZ] at HZ HZS HZN
          have HT := Shut.mk (fixL_take S' P N q hkp)
          rw [hae] at HT
          clear hat hwc hvl hV hZ hae hde hkp
          go_wp2_with (first
            | (refine wpList_load_mid rfl 81 _ rfl gp (q * 129) rfl V _ HAT.out Try.underlying81 rfl HI.out ?_)
            | (refine wpList_alloc_of rfl 81 rfl Z HZ.out ?_)
            | (refine wpList_store_cells rfl 81 _ _ rfl rfl wr.heap.size _ V.toArray 81 rfl rfl HZN.out HI2.out HZS.out HV1.out ?_))
          intro w5 hc5 hb5
          have hb55 : Below wr.heap.size wr w5 := But.toBelow ((Below.refl _ _).alloc (Nat.le_refl _) (.cells Z.toArray 81)) hb5.out (Nat.le_refl _) (by simp)
          have HC5 := Lib.hid hc5.out
          have HR5 := Lib.hid (HR.out.below hb55)
          have HO5 := Lib.hid (HO.out.below hb55)
          have hN0 : (fixL S' (P.take q) N).length = S.length := by rw [fixL_len]; exact HNS.out
          have hok := fixL_ok HSL.out (P.take q) N (fun x hx => by rw [HSN.out]; exact (HP.out x (List.mem_of_mem_take hx)).1) HNL.out
          obtain ⟨gn, cn, hvn, hcn⟩ := HR5.out.now.secForm hok (by rw [hN0]; have := hpk.1; omega)
          obtain ⟨gs, cs, hvs, hcs⟩ := HR5.out.safe.secForm HSL.out (by rw [HSN.out]; have := hpk.1; omega)
          have HPK := Lib.hid hpk
          have HN0 := Shut.mk hN0
          have HOK := Lib.hid hok
          rw [hN0] at hvn hcn
          rw [HSN.out] at hvs hcs
          subst hvn hvs
          obtain ⟨g5, hg5⟩ : ∃ g5, wr.heap.size = g5 := ⟨_, rfl⟩
          rw [hg5] at HC5
          clear hc5 hb5 hb55 HR HO HAT HI HI2 HV1 HZS HZN hpk hN0 hok
          rw [hg5]
          clear hg5
          go_upto_region 9 with (fail)
          have HQ0 := Lib.hid (fun (w' : World) (h : Below w5.heap.size w5 w') => HR5.out.below h)
          have HC0 := Lib.hid (fun (w' : World) (h : Below w5.heap.size w5 w') => show w'.cell? ⟨g, 0, none⟩ = some (.slice (some ⟨gn, 0, none⟩) (128 * S.length) cn) from (HQ0.out w' h).field 0)
          have HC1 := Lib.hid (fun (w' : World) (h : Below w5.heap.size w5 w') => show w'.cell? ⟨g, 1, none⟩ = some (.slice (some ⟨gs, 0, none⟩) (128 * S.length) cs) from (HQ0.out w' h).field 1)
          have HCA := Lib.hid (fun (w' : World) (h : Below w5.heap.size w5 w') => show w'.cell? ⟨g5, 0, none⟩ = some (.int .i64 (a : Int)) by
            rw [(HC5.out.below h).at 0, ← HV.out]
            rfl)
          have HSC := Lib.hid (fun w' => dev_sector gs (128 * S.length) cs a w' (by have := HPK.out.1; omega) hcs (by have := HS.out; omega))
          have HNC := Lib.hid (fun w' => dev_sector gn (128 * S.length) cn a w' (by have := HPK.out.1; omega) hcn (by have := HS.out; omega))
          refine wp_region_class_tail (fun w' => Below w5.heap.size w5 w') 14 (by kernel_rfl) (by kernel_rfl) (Below.refl _ _).drew ?_
          simp only [List.take_succ_cons, List.take_zero, List.drop_succ_cons, List.drop_zero]
          repeat (first
            | (go_big_quiet_want; refine quiet_load_cell 40 _ rfl ⟨g, 0, none⟩ _ rfl HC0.out Try.isAgg40 ?_; go_big_quiet_on; simp only [Act.put, List.setIfInBounds_toArray, List.set_cons_zero, List.set_cons_succ])
            | (go_big_quiet_want; refine quiet_load_cell 40 _ rfl ⟨g, 1, none⟩ _ rfl HC1.out Try.isAgg40 ?_; go_big_quiet_on; simp only [Act.put, List.setIfInBounds_toArray, List.set_cons_zero, List.set_cons_succ])
            | (go_big_quiet_want; refine quiet_load_cell 3 _ rfl ⟨g5, 0, none⟩ _ rfl HCA.out Try.isAgg3 ?_; go_big_quiet_on; simp only [Act.put, List.setIfInBounds_toArray, List.set_cons_zero, List.set_cons_succ])
            | go_big_quiet_step ((intro hs'; rfl)))
          go_big_quiet_step ((intro hs'; exact (HNC.out _).mono fun e w' h => ⟨h.1, by rw [h.2]; exact hs'⟩))
          repeat (first
            | (go_big_quiet_want; refine quiet_load_cell 40 _ rfl ⟨g, 0, none⟩ _ rfl HC0.out Try.isAgg40 ?_; go_big_quiet_on; simp only [Act.put, List.setIfInBounds_toArray, List.set_cons_zero, List.set_cons_succ])
            | (go_big_quiet_want; refine quiet_load_cell 40 _ rfl ⟨g, 1, none⟩ _ rfl HC1.out Try.isAgg40 ?_; go_big_quiet_on; simp only [Act.put, List.setIfInBounds_toArray, List.set_cons_zero, List.set_cons_succ])
            | (go_big_quiet_want; refine quiet_load_cell 3 _ rfl ⟨g5, 0, none⟩ _ rfl HCA.out Try.isAgg3 ?_; go_big_quiet_on; simp only [Act.put, List.setIfInBounds_toArray, List.set_cons_zero, List.set_cons_succ])
            | go_big_quiet_step ((intro hs'; rfl)))
          go_big_quiet_step ((intro hs'; exact (HSC.out _).mono fun e w' h => ⟨h.1, by rw [h.2]; exact hs'⟩))
          refine wpQuiet_nil ?_
          intro w6 hs6
          have HR6 := Lib.hid (HR5.out.below hs6)
          have HO6 := Lib.hid (HO5.out.below hs6)
          have HX := Lib.hid (show (S'.getD a []).length = 128 by
            rw [List.getD_eq_getElem?_getD, List.getElem?_eq_getElem (by rw [HSN.out]; exact HPK.out.1)]
            exact HSL.out _ (List.getElem_mem _))
          obtain ⟨x, hx⟩ : ∃ x, S'.getD a [] = x := ⟨_, rfl⟩
          have HS6 := Lib.hid (fun j v (hj : (bv x)[j]? = some v) => show w6.cell? ((⟨gs, 128 * a, none⟩ : Addr).add j) = some v by
            have hjl := (List.getElem?_eq_some_iff.1 hj).1
            rw [bv_len, ← hx, HX.out] at hjl
            rw [Addr.add_mid, HR6.out.safe.secThere (by rw [HSN.out]) HSL.out (by rw [HSN.out]; exact HPK.out.1) j hjl, hx, hj]
            rfl)
          rw [hx] at HX HT
          have HDL := Shut.mk (show (bv x).length = Nat.min 128 128 by rw [bv_len]; exact HX.out)
          have HDC := Lib.hid (fun j (hj : j < (bv x).length) => show (w6.cell? ⟨gn, 128 * a + j, none⟩).isSome = true by
            rw [HR6.out.now.secThere (by rw [HN0.out]) HOK.out (by rw [HN0.out]; exact HPK.out.1) j (by rw [HDL.out] at hj; exact hj)]
            rfl)
          have HDF := Lib.hid (fun j (_ : j < (bv x).length) => show w6.frozen? ⟨gn, 128 * a + j, none⟩ = false from HR6.out.now.secFrozen (by rw [HN0.out]) HOK.out _)
          have HD1 := Lib.hid (bv_one x)
          clear hs6 HQ0 HC0 HC1 HCA HSC HNC HR5 HO5 hx
          refine wpList_copy_cells rfl (.tmp 47) (.tmp 54) 40 40 rfl 5 Try.underlying40 (by kernel_rfl) gn (128 * a) 128 (cn - 128 * a) ⟨gs, 128 * a, none⟩ 128 (cs - 128 * a) (bv x) rfl rfl HDL.out HS6.out HDC.out HDF.out HD1.out ?_
          have HR7 := Lib.hid (HR6.out.setNow (by rw [HN0.out]) HOK.out (a := a) (d := x) (by rw [HN0.out]; exact HPK.out.1) HX.out)
          rw [← HT.out] at HR7
          have HO7 := Lib.hid (HO6.out.but (But.cells (b := gn) (bv x) (128 * a) w6 (But.refl gn w6)) (.inl (.inr (.inl rfl))))
          obtain ⟨w7, hw7⟩ : ∃ y, y = w6.setCells gn (128 * a) (bv x) := ⟨_, rfl⟩
          rw [← hw7] at HR7 HO7 ⊢
          clear hw7 HR6 HO6 HS6 HDL HDC HDF HD1 HT HX
          go_wp2_with fail
          exact ⟨⟨q + 1, by omega, by go_num, HR7.out, HO7.out⟩, by simp [intOf]; omega⟩
        · obtain rfl : q = k := by omega
          have hnw2 : ¬ (q : Int) < (q : Int) := by omega
          have c2 := HR.out.field 2
          simp only [devV, List.getElem?_toArray, List.getElem?_cons_zero, List.getElem?_cons_succ] at c2
          have f2 := HR.out.cells.frozen 2
          go_wp2_with fail
          refine bodyPost_end (results_none rfl _ _ _) rfl ?_
          have hb := (But.refl g wr).setCell 2 (.slice none 0 0)
          have hc := HR.out.cells.set 2 (.slice none 0 0)
          have hr := HR.out
          rw [← HM.out, List.take_length] at hr
          refine ⟨rfl, ?_, HO.out.but hb (.inl (.inl rfl))⟩
          rw [HSE.out]
          exact ⟨hc, hr.now.but hb (fun e => hr.now.notCells hr.cells (by decide) e), hr.safe.but hb (fun e => hr.safe.notCells hr.cells (by decide) e), RowK.nil _ _ _, hr.apart⟩
end Go.Proofs.Ythnagnjcbgcnfaa
