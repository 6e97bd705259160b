/-
  The developers' disk: Write.
-/
import Derived.Test.YthnagnjcbgcnfaaDevRd
namespace Go.Proofs.Ythnagnjcbgcnfaa
open Go.RowKit Go.BigFrame

theorem write_built (n : Int) : Try.prog.built 81 [(0, .int .i64 n)] = some (.int .i64 n :: bv (List.replicate 128 0)).toArray := by kernel_rfl
theorem wpList_build_write {ops : Array Oper} {rest : List Oper} {o : Oper} {a : Act} {w : World} {Q : Exit → Act → World → Prop} (hg : o.guard = none) (x : Operand) (ho : o.op = .build 81 #[(0, x)]) (n : Nat) (hx : a.eval x = .int .i64 n) (Z : List Value) (hZ : wcells (n, List.replicate 128 0) = Z)
    (hk : wpList Try.prog ops Q rest (a.put o.dst (.agg Z.toArray)) w) : wpList Try.prog ops Q (o :: rest) a w := by
  subst hZ
  refine wpList_plain hg fun K hK => ?_
  have e : ((#[(0, x)] : Array (Nat × Operand)).map fun (i, x) => (i, a.eval x)) = #[(0, .int .i64 (n : Int))] := by simp [hx]
  have hb := run_build (P := Try.prog) w 81 #[(0, .int .i64 (n : Int))] _ (write_built n)
  unfold Oper.wp execOp
  simp only [ho, e, Sem.run_bind, hb, Result.andThen_ok]
  exact hK _ _ hk
/-- A write pushed, the row laid back. -/
theorem DevAt.push {g : Nat} {vN vS vP v' : Value} {N S : List (List UInt8)} {P : List (Nat × List UInt8)} {off : Bool} {acts fuse keep : Nat} {w w' : World} {q : Nat × List UInt8} (h : DevAt g vN vS vP N S P off acts fuse keep w) (hr : RowK 129 81 v' (wrows P ++ [wcells q]) w') (hg : w.grownBy w' vP.ownBlock) :
    DevAt g vN vS v' N S (P ++ [q]) off acts fuse keep (w'.setCell ⟨g, 2, none⟩ v') := by
  have hc : Cells g 47 (devV vN vS vP off acts fuse keep) w' := (hg.block g h.cells.lt (fun e => h.pend.notCells h.cells (by decide) e.symm)).trans h.cells
  have h1 := h.now.grown hg (fun b hb e => h.pend.notRow h.now (by decide) e hb)
  have h2 := h.safe.grown hg (fun b hb e => h.pend.notRow h.safe (by decide) e hb)
  have hb := (But.refl g w').setCell 2 v'
  rw [← wrows_snoc] at hr
  exact ⟨hc.set 2 v', h1.but hb (fun e => h1.notCells hc (by decide) e), h2.but hb (fun e => h2.notCells hc (by decide) e), hr.but hb (fun e => hr.notCells hc (by decide) e), h.apart⟩
theorem Cells.lay {g o : Nat} {t : TypeId} {S x : List Value} {w : World} (h : Cells g t S.toArray w) : Cells g t (layV S o x).toArray (w.setCells g o x) := by
  induction x generalizing S o w with
  | nil => exact h
  | cons v r ih =>
    have h1 := h.set o v
    rw [List.setIfInBounds_toArray] at h1
    exact ih h1
theorem lay_pad (n : Int) (b : List UInt8) (hb : b.length ≤ 128) : layV (.int .i64 n :: bv (List.replicate 128 0)) 1 (bv b) = .int .i64 n :: bv (padN b) := by
  refine List.ext_getElem? fun j => ?_
  rw [layV_get _ _ _ _ (by rw [List.length_cons, bv_len, bv_len, List.length_replicate]; omega), bv_len]
  cases j with
  | zero => rw [if_neg (by omega)]; rfl
  | succ j =>
    rw [List.getElem?_cons_succ, List.getElem?_cons_succ]
    have hp : padN b = b ++ List.replicate (128 - b.length) 0 := rfl
    by_cases hj : j < b.length
    · rw [if_pos ⟨by omega, by omega⟩, Nat.add_sub_cancel, bv_get hj, bv_get (by rw [padN_len hb]; omega)]
      congr 3
      simp only [hp]
      rw [List.getElem_append_left hj]
    · rw [if_neg (by omega)]
      by_cases hj2 : j < 128
      · rw [bv_get (by rw [List.length_replicate]; exact hj2), bv_get (by rw [padN_len hb]; exact hj2)]
        congr 3
        simp only [hp]
        rw [List.getElem_append_right (by omega), List.getElem_replicate, List.getElem_replicate]
      · rw [List.getElem?_eq_none (by rw [bv_len, List.length_replicate]; omega), List.getElem?_eq_none (by rw [bv_len, padN_len hb]; omega)]
theorem writeE_bad {s : DS} {at' : Int} {b : List UInt8} {y : Nat} (h : whyS s at' = y) (hy : y ≠ 0) : writeE s at' b = y ∧ writeS s at' b = s := ⟨by rw [writeE, if_neg (by omega), h], by rw [writeS, if_neg (by omega)]⟩
set_option maxHeartbeats 4000000 in
set_option maxRecDepth 100000 in
theorem dev7_write (O : Nat → Prop) (v : Value) (s : DS) (at' : Int) (b : List UInt8) (bo : Option Addr) (bc : Nat) (w : World) (h : DiskIs O v s w) (hf : Fit s 999999) (hb : NumsAt bo .u8 (byteNs b) w) (hbo : byteNs b ≠ [] → ∀ a, bo = some a → ¬ O a.block) (hbl : b.length ≤ 1000000) :
    Calls Try.prog 40 #[v, .int .i64 at', .slice bo b.length bc] w fun e w' => e = .returned (.int .i64 (writeE s at' b : Nat)) ∧ ∃ O', DiskIs O' v (writeS s at' b) w' ∧ Turn O O' w w' := by
  have HI := Lib.hid h
  obtain ⟨g, vN, vS, vP, kp, rfl, rfl, hd, hkp⟩ := h
  have hsl := hf.safe
  have hl : (nowS s).length ≤ 16384 := by rw [nowS_len]; exact hsl
  by_cases hin : 0 ≤ at' ∧ at' < (s.safe.length : Int)
  · have HH := Lib.hid (dev_has g vN vS vP _ _ _ _ _ _ _ at' w hd hf.ok.now hl true (by rw [nowS_len]; exact decide_eq_true hin))
    have c4 := hd.field 4
    simp only [devV, List.getElem?_toArray, List.getElem?_cons_zero, List.getElem?_cons_succ] at c4
    cases hof : s.off with
    | true =>
      have HW := Shut.mk (writeE_bad (b := b) (whyS_down hin hof) (by decide))
      rw [hof] at c4
      clear hd hkp hf hof hin hsl hl hb hbo
      rw [HW.out.1, HW.out.2]
      go_enter Try.func40, Try.ntmps40
      go_wp2_with fail
      refine HH.out.mono ?_
      rintro e w1 ⟨rfl, rfl⟩
      go_wp2_with fail
      go_ret
      exact ⟨rfl, _, HI.out, Turn.refl _ _⟩
    | false =>
      rw [hof] at c4
      by_cases hlong : 128 < b.length
      · have hy := whyS_ok hin hof
        have HE := Shut.mk (show writeE s at' b = 1 by rw [writeE, if_pos hy, if_pos hlong])
        have HS := Shut.mk (show writeS s at' b = s by rw [writeS, if_neg (by omega)])
        have hl2 : (128 : Int) < (b.length : Int) := by omega
        clear hd hkp hf hof hin hsl hl hb hbo hlong hy
        rw [HE.out, HS.out]
        go_enter Try.func40, Try.ntmps40
        go_wp2_with fail
        refine HH.out.mono ?_
        rintro e w1 ⟨rfl, rfl⟩
        go_wp2_with fail
        go_ret
        exact ⟨rfl, _, HI.out, Turn.refl _ _⟩
      · obtain ⟨a, rfl⟩ : ∃ a : Nat, at' = a := ⟨at'.toNat, by omega⟩
        have ha : a < s.safe.length := by omega
        have hy := whyS_ok hin hof
        have HE := Shut.mk (show writeE s a b = if failS (putS s a b) then 7 else 0 by rw [writeE, if_pos hy, if_neg hlong]; rfl)
        have HS := Shut.mk (show writeS s a b = actS (putS s a b) by rw [writeS, if_pos ⟨hy, by omega⟩, Int.toNat_natCast])
        have hl2 : ¬ (128 : Int) < (b.length : Int) := by omega
        have hb128 : b.length ≤ 128 := by omega
        have HB128 := Lib.hid hb128
        have HA := Lib.hid ha
        have HF := Lib.hid hf
        have HKP := Shut.mk hkp
        have HOF := Shut.mk hof
        have HHL := Shut.mk (nowS_len s)
        have HNB := Lib.hid hb
        have HBO := Lib.hid hbo
        have HD := Lib.hid hd
        rw [HE.out]
        have hEE : ∃ E : Nat, (if failS (putS s a b) then 7 else 0) = E := ⟨_, rfl⟩
        obtain ⟨E, hEE⟩ := hEE
        have HEE := Shut.mk hEE
        rw [hEE, HS.out]
        obtain ⟨Z, hZ⟩ : ∃ Z, wcells (a, List.replicate 128 0) = Z := ⟨_, rfl⟩
        obtain ⟨Z0, hZ0⟩ : ∃ Z0, zeroW = Z0 := ⟨_, rfl⟩
        have HZZ := Lib.hid (show ∀ Z', wcells (a, List.replicate 128 0) = Z' → Z' = Z from fun Z' h => by rw [← h, hZ])
        have HZ := Shut.mk hZ
        have HZW := Lib.hid Try.zeroWrite7
        rw [hZ0] at HZW
        have hZl : Z.length = 129 := by rw [← hZ]; exact wcells_len (by simp)
        have HI2 := Lib.hid (show (Try.prog.info? 81).map (·.size) = some Z.toArray.size by rw [List.size_toArray, hZl]; exact Try.sizeWrite7)
        have HZS := Shut.mk (show Z0.toArray.size = Z.toArray.size by rw [List.size_toArray, List.size_toArray, hZl, ← hZ0, zeroW_len])
        have HZ1 := Lib.hid (show Z.toArray.all (·.oneCell') = true by rw [← hZ]; exact all_oneCell_toArray (wcells_one _))
        have HZN := Lib.hid (show Cells w.heap.size 81 Z0.toArray (w.alloc (.cells Z0.toArray 81)) from heap_alloc_new w _)
        clear hd hkp hf hof hin hsl hl hb hbo hlong hy ha hEE hZ hZ0 hZl
        go_enter Try.func40, Try.ntmps40
        go_wp2_with fail
        refine HH.out.mono ?_
        rintro e w1 ⟨rfl, rfl⟩
        go_wp2_with (first
          | (refine wpList_build_write rfl _ rfl a rfl Z HZ.out ?_)
          | (refine wpList_alloc_of rfl 81 rfl Z0 HZW.out ?_)
          | (refine wpList_store_cells rfl 81 _ _ rfl rfl w1.heap.size _ Z.toArray 81 rfl rfl HZN.out HI2.out HZS.out HZ1.out ?_))
        intro w2 hc2 hb2
        have hb22 : Below w1.heap.size w1 w2 := But.toBelow ((Below.refl _ _).alloc (Nat.le_refl _) (.cells Z0.toArray 81)) hb2.out (Nat.le_refl _) (by simp)
        obtain ⟨g2, hg2⟩ : ∃ g2, w1.heap.size = g2 := ⟨_, rfl⟩
        have HG2 := Shut.mk hg2
        have hz : Z.length = 129 := by rw [← HZ.out]; exact wcells_len (by simp)
        have hc3 : Cells g2 81 (wcells (a, padN b)).toArray (w2.setCells g2 1 (nums .u8 (byteNs b))) := by
          have h := hc2.out
          rw [hg2, ← HZ.out] at h
          have h2 := Cells.lay (o := 1) (x := bv b) h
          rw [wcells, lay_pad _ _ HB128.out] at h2
          exact h2
        have HC2 := Lib.hid hc2.out
        rw [hg2] at HC2
        have HSN := Shut.mk (byteNs_len b).symm
        have HLE := Lib.hid (show (byteNs b).length ≤ 128 by rw [byteNs_len]; exact HB128.out)
        have HSR := Lib.hid (HNB.out.below hb22)
        have HDC := Lib.hid (fun j (hj : j < (byteNs b).length) => show (w2.cell? ⟨g2, 1 + j, none⟩).isSome = true by
          rw [byteNs_len] at hj
          have := HB128.out
          rw [HC2.out.at, List.getElem?_toArray, List.getElem?_eq_getElem (by omega)]
          rfl)
        have HDF := Lib.hid (fun j (_ : j < (byteNs b).length) => show w2.frozen? ⟨g2, 1 + j, none⟩ = false from HC2.out.frozen _)
        have hbb : Below w1.heap.size w1 (w2.setCells g2 1 (nums .u8 (byteNs b))) := But.toBelow hb22 (But.cells (b := g2) _ 1 w2 (But.refl g2 w2)) (by rw [hg2]; exact Nat.le_refl _) hb22.size
        have HD3 := Lib.hid (HD.out.below hbb)
        have HO3 := Lib.hid ((Only.refl (devO g vN vS vP) w1).below hbb)
        have HC3 := Lib.hid hc3
        have HGN := Lib.hid (show ∀ x, devO g vN vS vP x → x ≠ g2 from fun x hx e => by
          have := HD.out.lt hx
          omega)
        clear hc2 hb2 hb22 hz hc3 hbb
        rw [hg2]
        clear hg2
        go_upto_region 11 with (refine wpList_copy_in rfl (.tmp 28) (.tmp 29) 40 40 rfl 5 Try.underlying40 (by kernel_rfl) g2 1 128 128 bo b.length bc .u8 (byteNs b) rfl rfl HSN.out HLE.out HSR.out HDC.out HDF.out ?_)
        obtain ⟨w3, hw3⟩ : ∃ x, x = w2.setCells g2 1 (nums .u8 (byteNs b)) := ⟨_, rfl⟩
        rw [← hw3] at HD3 HO3 HC3 ⊢
        simp only [Act.put, List.setIfInBounds_toArray, List.set_cons_zero, List.set_cons_succ]
        clear hw3 HC2 HSR HDC HDF HZN HZW HZS HZ1 HI2 HNB HBO HH c4
        obtain ⟨gn, cn, hvn, hcn⟩ := HD3.out.now.secForm HF.out.ok.now (by rw [HHL.out]; have := HA.out; omega)
        rw [HHL.out] at hvn hcn
        subst hvn
        have HQ0 := Lib.hid (fun (w' : World) (h : Below w3.heap.size w3 w') => HD3.out.below h)
        have HC0 := Lib.hid (fun (w' : World) (h : Below w3.heap.size w3 w') => show w'.cell? ⟨g, 0, none⟩ = some (.slice (some ⟨gn, 0, none⟩) (128 * s.safe.length) cn) from (HQ0.out w' h).field 0)
        have HNC := Lib.hid (fun w' => dev_sector gn (128 * s.safe.length) cn a w' (by have := HA.out; omega) hcn (by have := HF.out.safe; omega))
        refine wp_region_class_tail (fun w' => Below w3.heap.size w3 w') 8 (by kernel_rfl) (by kernel_rfl) (Below.refl _ _).drew ?_
        simp only [List.take_succ_cons, List.take_zero, List.drop_succ_cons, List.drop_zero]
        repeat (first
          | (go_big_quiet_want; refine quiet_load_cell 40 _ rfl ⟨g, 0, none⟩ _ rfl HC0.out Try.isAgg40 ?_; go_big_quiet_on; simp only [Act.put, List.setIfInBounds_toArray, List.set_cons_zero, List.set_cons_succ])
          | go_big_quiet_step ((intro hs'; first
              | rfl
              | (go_at_call 29; exact (HNC.out _).mono fun e w' h => ⟨h.1, by rw [h.2]; exact hs'⟩))))
        refine wpQuiet_nil ?_
        intro w4 hs4
        have HD4 := Lib.hid (HD3.out.below hs4)
        have HO4 := Lib.hid (HO3.out.below hs4)
        have HC4 := Lib.hid (HC3.out.below (hs4.mono (Nat.le_refl _)))
        have HPL := Shut.mk (padN_len HB128.out)
        obtain ⟨x, hx⟩ : ∃ x, padN b = x := ⟨_, rfl⟩
        rw [hx] at HC4 HPL
        have HXE := Shut.mk hx
        have HS4 := Lib.hid (fun j v (hj : (bv x)[j]? = some v) => show w4.cell? ((⟨g2, 1, none⟩ : Addr).add j) = some v by
          rw [Addr.add_mid, HC4.out.at, wcells, List.getElem?_toArray, Nat.add_comm, List.getElem?_cons_succ]
          exact hj)
        have HDL := Shut.mk (show (bv x).length = Nat.min 128 128 by rw [bv_len]; exact HPL.out)
        have HDC := Lib.hid (fun j (hj : j < (bv x).length) => show (w4.cell? ⟨gn, 128 * a + j, none⟩).isSome = true by
          rw [HD4.out.now.secThere (by rw [HHL.out]) HF.out.ok.now (by rw [HHL.out]; exact HA.out) j (by rw [HDL.out] at hj; exact hj)]
          rfl)
        have HDF := Lib.hid (fun j (_ : j < (bv x).length) => show w4.frozen? ⟨gn, 128 * a + j, none⟩ = false from HD4.out.now.secFrozen (by rw [HHL.out]) HF.out.ok.now _)
        have HD1 := Lib.hid (bv_one x)
        clear hs4 HQ0 HC0 HNC HD3 HO3 HC3 hx
        refine wpList_copy_cells rfl (.tmp 36) (.tmp 38) 40 40 rfl 5 Try.underlying40 (by kernel_rfl) gn (128 * a) 128 (cn - 128 * a) ⟨g2, 1, none⟩ 128 128 (bv x) rfl rfl HDL.out HS4.out HDC.out HDF.out HD1.out ?_
        have hbut := But.cells (b := gn) (bv x) (128 * a) w4 (But.refl gn w4)
        have HD5 := Lib.hid (HD4.out.setNow (by rw [HHL.out]) HF.out.ok.now (a := a) (d := x) (by rw [HHL.out]; exact HA.out) HPL.out)
        have HO5 := Lib.hid (HO4.out.but hbut (.inl (.inr (.inl rfl))))
        have HC5 := Lib.hid (HC4.out.but hbut (fun e => HGN.out gn (.inr (.inl rfl)) e.symm))
        obtain ⟨w5, hw5⟩ : ∃ y, y = w4.setCells gn (128 * a) (bv x) := ⟨_, rfl⟩
        rw [← hw5] at HD5 HO5 HC5 ⊢
        clear hw5 HD4 HO4 HC4 HS4 HDL HDC HDF HD1 hbut
        go_upto_region 12 with (fail)
        simp only [Act.put, List.setIfInBounds_toArray, List.set_cons_zero, List.set_cons_succ]
        obtain ⟨U, hU⟩ : ∃ U, wcells (a, x) = U := ⟨_, rfl⟩
        have hUl : U.length = 129 := by rw [← hU]; exact wcells_len HPL.out
        have HU1 := Lib.hid (show ∀ y ∈ U, y.oneCell' = true by rw [← hU]; exact wcells_one _)
        have HUL := Shut.mk hUl
        rw [hU] at HC5
        have HUE := Shut.mk hU
        have HIU := Lib.hid (show (Try.prog.info? 81).map (·.size) = some U.toArray.size by rw [List.size_toArray, hUl]; exact Try.sizeWrite7)
        have HFA := Lib.hid (show ∀ w, (Instr.fieldAt 47 (.pointer (some ⟨g, 0, none⟩)) 2).run Try.prog w = .ok (.pointer (some ⟨g, 2, none⟩)) w from fun w => by go_simp)
        have HBL := Lib.hid (run_build_wide (P := Try.prog) 45 81 U (.agg zeroW.toArray) 136 129 Try.underlying45 Try.infoWrite7 hUl (by decide) (by decide))
        have HSL := Lib.hid (show (wrows s.pend).length ≤ 1000000 by rw [wrows_len]; exact Nat.le_trans HF.out.pend (by omega))
        clear hU hUl
        have HAB := Lib.hid (fun (w' w'' : World) (h : Below w'.heap.size w' w'') (ha : w'.cell? ⟨g, 2, none⟩ = some vP ∧ Cells g2 81 U.toArray w') => show w''.cell? ⟨g, 2, none⟩ = some vP ∧ Cells g2 81 U.toArray w'' from ⟨(h.cell (p := ⟨g, 2, none⟩) (block_lt_of_cell ha.1)).trans ha.1, ha.2.below h⟩)
        have HMB := Lib.hid (fun (w' w'' : World) (h : Below w'.heap.size w' w'') (ha : DevAt g (.slice (some ⟨gn, 0, none⟩) (128 * s.safe.length) cn) vS vP ((nowS s).set a x) s.safe s.pend s.off s.acts s.fuse kp w' ∧ Only (devO g (.slice (some ⟨gn, 0, none⟩) (128 * s.safe.length) cn) vS vP) w1 w') => show DevAt g (.slice (some ⟨gn, 0, none⟩) (128 * s.safe.length) cn) vS vP ((nowS s).set a x) s.safe s.pend s.off s.acts s.fuse kp w'' ∧ Only (devO g (.slice (some ⟨gn, 0, none⟩) (128 * s.safe.length) cn) vS vP) w1 w'' from ⟨ha.1.below h, ha.2.below h⟩)
        have HAP := Lib.hid (fun (w' w'' : World) (ha : DevAt g (.slice (some ⟨gn, 0, none⟩) (128 * s.safe.length) cn) vS vP ((nowS s).set a x) s.safe s.pend s.off s.acts s.fuse kp w' ∧ Only (devO g (.slice (some ⟨gn, 0, none⟩) (128 * s.safe.length) cn) vS vP) w1 w') (hal : w'.cell? ⟨g, 2, none⟩ = some vP ∧ Cells g2 81 U.toArray w') (hg : w'.grownBy w'' vP.ownBlock) => show w''.cell? ⟨g, 2, none⟩ = some vP ∧ Cells g2 81 U.toArray w'' from
          ⟨hg.cell hal.1 (fun e => ha.1.pend.notCells ha.1.cells (by decide) e.symm), hal.2.only ((Only.refl (fun x => vP.ownBlock = some x) w').grown hg (fun _ h => .inl h)) (fun e => HGN.out g2 (.inr (.inr (.inr e))) rfl)⟩)
        have HST := Lib.hid (show (w5.cell? ⟨g, 2, none⟩ = some vP ∧ Cells g2 81 U.toArray w5) ∧ DevAt g (.slice (some ⟨gn, 0, none⟩) (128 * s.safe.length) cn) vS vP ((nowS s).set a x) s.safe s.pend s.off s.acts s.fuse kp w5 ∧ Only (devO g (.slice (some ⟨gn, 0, none⟩) (128 * s.safe.length) cn) vS vP) w1 w5 from ⟨⟨HD5.out.cells.at 2, HC5.out⟩, HD5.out, HO5.out⟩)
        clear HD5 HO5 HC5
        refine wp_region_free 8 (fun q V w' => Val q V 0 (.pointer (some ⟨g, 0, none⟩)) ∧ Val q V 1 (.pointer (some ⟨g, 0, none⟩)) ∧ Val q V 2 (.pointer (some ⟨g, 0, none⟩)) ∧ Val q V 3 (.pointer (some ⟨g, 2, none⟩)) ∧ Val q V 4 vP ∧ Val q V 5 (.agg U.toArray) ∧ PushInvK 6 7 (fun w' => w'.cell? ⟨g, 2, none⟩ = some vP ∧ Cells g2 81 U.toArray w') (fun w' => DevAt g (.slice (some ⟨gn, 0, none⟩) (128 * s.safe.length) cn) vS vP ((nowS s).set a x) s.safe s.pend s.off s.acts s.fuse kp w' ∧ Only (devO g (.slice (some ⟨gn, 0, none⟩) (128 * s.safe.length) cn) vS vP) w1 w') (fun wa v w' => RowK 129 81 v (wrows s.pend ++ [U]) w' ∧ wa.grownBy w' vP.ownBlock ∧ (v.ownBlock = vP.ownBlock ∨ v.ownBlock = some wa.heap.size)) U q V w') (fun _ => undef) (by kernel_rfl) (by kernel_rfl) (by kernel_rfl) (by simp only [List.take_succ_cons, List.take_zero, putAll, Act.put, List.setIfInBounds_toArray, List.set_cons_zero, List.set_cons_succ]) ⟨Val.none, Val.none, Val.none, Val.none, Val.none, Val.none, PushInvK.none (HAB.out _ _ (Below.refl _ _).drew HST.out.1) (HMB.out _ _ (Below.refl _ _).drew HST.out.2)⟩ ?_ ?_
        · simp only [List.take_succ_cons, List.take_zero, putAll, Nat.zero_add, Nat.reduceAdd, Act.put, List.setIfInBounds_toArray, List.set_cons_zero, List.set_cons_succ]
          refine FreeSteps.cons ?_ (FreeSteps.cons ?_ (FreeSteps.cons ?_ (FreeSteps.cons ?_ (FreeSteps.cons ?_ (FreeSteps.cons ?_ (FreeSteps.cons ?_ (FreeSteps.cons ?_ FreeSteps.nil)))))))
          all_goals (refine FreeStep.fresh rfl ?_; rintro q V wq hr hu ⟨h0, h1, h2, h3, h4, h5, hp⟩ K hK)
          · exact op_move (.tmp 0) rfl _ rfl (hK _ _ ⟨.same, h1.ne (by decide), h2.ne (by decide), h3.ne (by decide), h4.ne (by decide), h5.ne (by decide), hp.ne (by decide) (by decide)⟩)
          · exact op_move (.tmp 0) rfl _ rfl (hK _ _ ⟨h0.ne (by decide), .same, h2.ne (by decide), h3.ne (by decide), h4.ne (by decide), h5.ne (by decide), hp.ne (by decide) (by decide)⟩)
          · exact op_nilCheck (.tmp 41) rfl _ (h1 (hr { on := 1, ground := .data } (by simp) rfl)) (hK _ _ ⟨h0.ne (by decide), h1.ne (by decide), .same, h3.ne (by decide), h4.ne (by decide), h5.ne (by decide), hp.ne (by decide) (by decide)⟩)
          · exact op_fieldAt 47 (.tmp 42) 2 rfl _ _ (h2 (hr { on := 2, ground := .data } (by simp) rfl)) HFA.out (hK _ _ ⟨h0.ne (by decide), h1.ne (by decide), h2.ne (by decide), .same, h4.ne (by decide), h5.ne (by decide), hp.ne (by decide) (by decide)⟩)
          · exact op_load_cell 45 (.tmp 43) rfl _ vP (h3 (hr { on := 3, ground := .data } (by simp) rfl)) hp.always.1 Try.isAgg45 (hK _ _ ⟨h0.ne (by decide), h1.ne (by decide), h2.ne (by decide), h3.ne (by decide), .same, h5.ne (by decide), hp.ne (by decide) (by decide)⟩)
          · exact op_load_cells 81 (.tmp 7) rfl g2 U.toArray 81 _ rfl hp.always.2 Try.underlying81 rfl HIU.out (hK _ _ ⟨h0.ne (by decide), h1.ne (by decide), h2.ne (by decide), h3.ne (by decide), h4.ne (by decide), .same, hp.ne (by decide) (by decide)⟩)
          · have hba : Below wq.heap.size wq (wq.alloc (.cells U.toArray 81)) := (Below.refl _ _).alloc (Nat.le_refl _) _
            exact op_build_wide 45 81 (.tmp 45) rfl U (h5 (hr { on := 5, ground := .data } (by simp) rfl)) HBL.out (hK _ _ ⟨h0.ne (by decide), h1.ne (by decide), h2.ne (by decide), h3.ne (by decide), h4.ne (by decide), h5.ne (by decide), hp.build hu (by decide) (HAB.out _ _ hba hp.always) (fun h => HMB.out _ _ hba h)⟩)
          · have h6 := hr { on := 6, ground := .data } (by simp) rfl
            obtain ⟨gl, hv8, hc8⟩ := hp.lit h6 hu
            refine op_push_wide (.tmp 44) (.tmp 46) 45 81 rfl (.agg zeroW.toArray) 136 129 rfl (by decide) (by decide) Try.underlying45 Try.infoWrite7 vP (wrows s.pend) U HUL.out HU1.out ⟨gl, 0, none⟩ 1 (h4 (hr { on := 4, ground := .data } (by simp) rfl)) (hp.mid hu).1.pend hv8 hc8 HSL.out ?_
            intro v' w' hrow hg hv
            exact hK _ _ ⟨h0.ne (by decide), h1.ne (by decide), h2.ne (by decide), h3.ne (by decide), h4.ne (by decide), h5.ne (by decide), hp.push h6 hu (HAP.out _ _ (hp.mid hu) hp.always hg) ⟨hrow, hg, hv⟩⟩
        rintro q V w6 hall ⟨h0, h1, h2, h3, h4, h5, hp⟩
        have v0 := h0 (hall 0 (by decide))
        have v1 := h1 (hall 1 (by decide))
        have v2 := h2 (hall 2 (by decide))
        have v3 := h3 (hall 3 (by decide))
        have v4 := h4 (hall 4 (by decide))
        have v5 := h5 (hall 5 (by decide))
        obtain ⟨wa, ⟨hra, hoa⟩, hr6, hg6, hv6⟩ := hp.fin (hall 7 (by decide))
        obtain ⟨gl, v6⟩ : ∃ v, V 6 = v := ⟨_, rfl⟩
        obtain ⟨p6, q6, hq6⟩ := hr6.form
        obtain ⟨n6, hn6⟩ : ∃ n, (wrows s.pend ++ [U]).length = n := ⟨_, rfl⟩
        rw [hn6] at hq6
        rw [hq6] at hr6 hv6
        simp only [List.take_succ_cons, List.take_zero, List.drop_succ_cons, List.drop_zero, putAll, Nat.zero_add, Nat.reduceAdd, v0, v1, v2, v3, v4, v5, v6, hq6, Act.put, List.setIfInBounds_toArray, List.set_cons_zero, List.set_cons_succ]
        clear h0 h1 h2 h3 h4 h5 hp v0 v1 v2 v3 v4 v5 v6 hall hn6 hq6
        have HD7 := Lib.hid (hra.push (q := (a, x)) (by rw [HUE.out]; exact hr6) hg6)
        have ho6 : Only (devO g (.slice (some ⟨gn, 0, none⟩) (128 * s.safe.length) cn) vS vP) w1 w6 := hoa.grown hg6 (fun y hy => .inl (.inr (.inr (.inr hy))))
        have hc6 : Cells g 47 (devV (.slice (some ⟨gn, 0, none⟩) (128 * s.safe.length) cn) vS vP s.off s.acts s.fuse kp) w6 := (hg6.block g hra.cells.lt (fun e => hra.pend.notCells hra.cells (by decide) e.symm)).trans hra.cells
        have c62 : w6.cell? ⟨g, 2, none⟩ = some vP := hc6.at 2
        have f62 := hc6.frozen 2
        have HV6 := Lib.hid (show ∀ y, devO g (.slice (some ⟨gn, 0, none⟩) (128 * s.safe.length) cn) vS (.slice p6 n6 q6) y → devO g (.slice (some ⟨gn, 0, none⟩) (128 * s.safe.length) cn) vS vP y ∨ w1.heap.size ≤ y from fun y hy => by
          rcases hy with hy | hy | hy | hy
          · exact .inl (.inl hy)
          · exact .inl (.inr (.inl hy))
          · exact .inl (.inr (.inr (.inl hy)))
          · rcases hv6 with h | h
            · exact .inl (.inr (.inr (.inr (by rw [← h]; exact hy))))
            · rw [h] at hy
              have h1 := hoa.size
              simp only [Option.some.injEq] at hy
              exact .inr (by omega))
        have HO7 := Lib.hid (ho6.setCell 2 (.slice p6 n6 q6) (.inl (.inl rfl)))
        clear hr6 hg6 hv6 ho6 hc6 hra hoa HSL HFA HBL HAB HMB HAP HST HU1 HUL HUE HIU
        go_upto_region 13 with (fail)
        obtain ⟨w7, hw7⟩ : ∃ y, y = w6.setCell ⟨g, 2, none⟩ (.slice p6 n6 q6) := ⟨_, rfl⟩
        rw [← hw7] at HD7 HO7 ⊢
        clear hw7 c62 f62
        have hdi : DiskIs (devO g (.slice (some ⟨gn, 0, none⟩) (128 * s.safe.length) cn) vS (.slice p6 n6 q6)) (.pointer (some ⟨g, 0, none⟩)) (putS s a b) w7 :=
          ⟨g, _, _, _, kp, rfl, rfl, by
            rw [nowS_put, HXE.out]
            have h := HD7.out
            have e : (putS s a b).pend = s.pend ++ [(a, x)] := by rw [putS, HXE.out]
            rw [e]
            exact h, HKP.out⟩
        have HAC := Lib.hid (dev_act _ _ (putS s a b) w7 hdi HOF.out (Nat.le_trans HF.out.acts (by omega)) HF.out.fuse HF.out.keep (by rw [putS]; simp only [List.length_append, List.length_singleton]; have := HF.out.pend; omega) (HF.out.ok.put HA.out HB128.out) HF.out.safe)
        rw [HEE.out] at HAC
        have HT7 := Lib.hid (Turn.mk HO7.out HV6.out)
        clear hdi HD7 HO7 HV6
        go_wp2_with fail
        refine HAC.out.mono ?_
        rintro e w8 ⟨rfl, O', hr8, ht8⟩
        have HR8 := Lib.hid hr8
        have HT8 := Lib.hid (HT7.out.trans ht8)
        clear hr8 ht8 HAC HT7
        go_wp2_with fail
        go_ret
        exact ⟨rfl, O', HR8.out, HT8.out⟩
  · have HH := Lib.hid (dev_has g vN vS vP _ _ _ _ _ _ _ at' w hd hf.ok.now hl false (by rw [nowS_len]; exact decide_eq_false hin))
    have HW := Shut.mk (writeE_bad (b := b) (whyS_bad hin) (by decide))
    clear hd hkp hf hin hsl hl hb hbo
    rw [HW.out.1, HW.out.2]
    go_enter Try.func40, Try.ntmps40
    go_wp2_with fail
    refine HH.out.mono ?_
    rintro e w1 ⟨rfl, rfl⟩
    go_wp2_with fail
    go_ret
    exact ⟨rfl, _, HI.out, Turn.refl _ _⟩
end Go.Proofs.Ythnagnjcbgcnfaa
