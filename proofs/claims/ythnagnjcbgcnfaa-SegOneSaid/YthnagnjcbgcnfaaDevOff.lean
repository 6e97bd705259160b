/-
  The developers' disk: Off, act, Sync.
-/
import Derived.Test.YthnagnjcbgcnfaaDevSettle
namespace Go.Proofs.Ythnagnjcbgcnfaa
open Go.RowKit Go.BigFrame

theorem bit_one_u64 {x : Nat} (h : x < 18446744073709551616) : bits .and .u64 (x : Int) 1 = ((x % 2 : Nat) : Int) := by
  have e : (BitVec.ofInt 64 (x : Int) &&& BitVec.ofInt 64 1).toNat = x % 2 := by
    rw [BitVec.toNat_and, show (BitVec.ofInt 64 1).toNat = 1 from rfl, BitVec.ofInt_natCast, BitVec.toNat_ofNat, Nat.and_one_is_mod, Nat.mod_eq_of_lt h]
  show IntKind.u64.wrap ((BitVec.ofInt 64 (x : Int) &&& BitVec.ofInt 64 1).toNat : Int) = _
  rw [e]
  rcases (by omega : x % 2 = 0 ∨ x % 2 = 1) with h | h <;> rw [h] <;> rfl
set_option maxHeartbeats 1000000 in
theorem dev_off1 (gk keep i : Nat) (w : World) (hc : w.cell? ⟨gk, 0, none⟩ = some (.int .u64 (keep : Int))) (hk : keep < 18446744073709551616) (hi : i ≤ 1000000) :
    Calls Try.prog 27 #[.int .i64 (i : Int), .pointer (some ⟨gk, 0, none⟩)] w fun e w' => e = .returned (.bool (decide (keep / 2 ^ (i % 64) % 2 = 1))) ∧ w' = w := by
  have hx := bit_one_u64 (x := keep / 2 ^ (i % 64)) (Nat.lt_of_le_of_lt (Nat.div_le_self _ _) hk)
  rw [Int.natCast_ediv, Int.natCast_pow] at hx
  have hx2 : bits .and .u64 ((keep : Int) / 2 ^ (i % 64)) 1 = ((keep / 2 ^ (i % 64) % 2 : Nat) : Int) := hx
  have HX := Shut.mk hx2
  clear hx hx2
  go_enter Try.func27, Try.ntmps27
  go_wp2_with fail
  go_ret
  refine ⟨?_, rfl⟩
  show Ending.returned (Value.bool (bits .and .u64 ((keep : Int) / 2 ^ (i % 64)) 1 == 1)) = _
  rw [HX.out]
  congr 2
  rw [Bool.eq_iff_iff, beq_iff_eq, decide_eq_true_iff]
  omega

theorem goneS_on {s : DS} (h : s.off = false) (keep : Nat) : goneS s keep = { s with safe := keptL keep 0 s.pend s.safe, pend := [], off := true, fuse := 0 } := by rw [goneS, if_neg (by rw [h]; decide)]

set_option maxHeartbeats 4000000 in
set_option maxRecDepth 100000 in
theorem dev_off (g : Nat) (vN vS vP : Value) (N S : List (List UInt8)) (P : List (Nat × List UInt8)) (acts fuse kp : Nat) (keep : Nat) (w : World) (h : DevAt g vN vS vP N S P false acts fuse kp w) (hk : keep < 18446744073709551616)
    (hp : P.length ≤ 1000000) (hP : ∀ q ∈ P, q.1 < S.length ∧ q.2.length = 128) (hS : ∀ x ∈ S, x.length = 128) (hN : N = applyL P S) (hs : S.length ≤ 16384) :
    Calls Try.prog 11 #[.pointer (some ⟨g, 0, none⟩), .int .u64 keep] w fun e w' => e = .returned (.tuple #[]) ∧ DevAt g vN vS (.slice none 0 0) (keptL keep 0 P S) (keptL keep 0 P S) [] true acts 0 0 w' ∧ Only (devO g vN vS vP) w w' := by
  have HN := Shut.mk hN
  have HP := Lib.hid hP
  have HSL := Lib.hid hS
  have H := Lib.hid h
  have hba : Below w.heap.size w (w.alloc (.cells #[.int .u64 (keep : Int)] 23)) := (Below.refl _ _).alloc (Nat.le_refl _) _
  have hcg : (w.alloc (.cells #[.int .u64 (keep : Int)] 23)).heap[w.heap.size]? = some (.cells #[.int .u64 (keep : Int)] 23 (0, 0)) := heap_alloc_new w _
  have HR1 := Lib.hid (h.below hba)
  have HO1 := Lib.hid ((Only.refl (devO g vN vS vP) w).below hba)
  have HG := Lib.hid (show ¬ devO g vN vS vP w.heap.size from fun e => Nat.lt_irrefl _ (h.lt e))
  clear h hN hP hS
  go_enter Try.func11, Try.ntmps11
  go_upto_region 1 with (fail)
  obtain ⟨w1, hw1⟩ : ∃ x, x = w.alloc (.cells #[.int .u64 (keep : Int)] 23) := ⟨_, rfl⟩
  rw [← hw1] at HR1 HO1 hcg ⊢
  obtain ⟨gk, hgk⟩ : ∃ gk, w.heap.size = gk := ⟨_, rfl⟩
  rw [hgk] at HG hcg ⊢
  have HC := Lib.hid hcg
  clear hw1 hgk hcg hba
  have c4 := HR1.out.field 4
  simp only [devV, List.getElem?_toArray, List.getElem?_cons_zero, List.getElem?_cons_succ] at c4
  have HST := Lib.hid (dev_settle g vN vS vP N S P false acts fuse kp 27 _ #[.pointer (some ⟨gk, 0, none⟩)] (fun i => decide (keep / 2 ^ (i % 64) % 2 = 1)) w1 HR1.out Try.func27 rfl rfl
    (fun i hi w' hw' => dev_off1 gk keep i w' (by rw [(Cells.only (cs := #[.int .u64 (keep : Int)]) HC.out hw' HG.out).at 0]; rfl) hk (by omega)) hp HP.out HSL.out (by rw [HN.out]; exact applyL_ok _ _ (fun q hq => (HP.out q hq).2) HSL.out) (by rw [HN.out, applyL_len]) hs)
  rw [keptF_keep] at HST
  have HFX := Shut.mk (show fixL (keptL keep 0 P S) P N = keptL keep 0 P S by rw [HN.out, ← keptF_keep]; exact fix_all _ _ _)
  rw [HFX.out] at HST
  go_wp2_with fail
  refine HST.out.mono ?_
  rintro e w2 ⟨rfl, hr2, ho2⟩
  have HR2 := Lib.hid hr2
  have HO2 := Lib.hid (HO1.out.trans ho2 (fun b hb => .inl hb))
  have f4 := hr2.cells.frozen 4
  have c4 := hr2.field 4
  simp only [devV, List.getElem?_toArray, List.getElem?_cons_zero, List.getElem?_cons_succ] at c4
  clear hr2 ho2 HST HR1 HO1 HC HG HFX
  have hc4 := HR2.out.cells.set 4 (.bool true)
  have hr3 := HR2.out.fields ((But.refl g w2).setCell 4 (.bool true)) (off' := true) (acts' := acts) (fuse' := fuse) (keep' := kp) hc4
  have HO3 := Lib.hid (HO2.out.setCell 4 (.bool true) (.inl (.inl rfl)))
  have HR3 := Lib.hid hr3
  clear hc4 hr3
  go_upto_region 4 with (fail)
  obtain ⟨w3, hw3⟩ : ∃ x, x = w2.setCell ⟨g, 4, none⟩ (.bool true) := ⟨_, rfl⟩
  rw [← hw3] at HR3 HO3 ⊢
  have HAM := Lib.hid (dev_arm g vN vS (.slice none 0 0) (keptL keep 0 P S) (keptL keep 0 P S) [] true acts fuse kp 0 0 w3 HR3.out (by omega))
  clear hw3 HR2 HO2 c4 f4
  go_wp2_with fail
  refine HAM.out.mono ?_
  rintro e w4 ⟨rfl, hr4, ho4⟩
  have HR4 := Lib.hid hr4
  have HO4 := Lib.hid (HO3.out.trans ho4 (fun b hb => by
    rcases hb with hb | hb | hb | hb
    · exact .inl (.inl hb)
    · exact .inl (.inr (.inl hb))
    · exact .inl (.inr (.inr (.inl hb)))
    · cases hb))
  clear hr4 ho4 HAM HR3 HO3
  go_wp2_with fail
  refine bodyPost_end (results_none rfl _ _ _) rfl ?_
  exact ⟨rfl, HR4.out, HO4.out⟩
set_option maxHeartbeats 4000000 in
set_option maxRecDepth 100000 in
/-- The power is off already. -/
theorem dev_off_not (g : Nat) (vN vS vP : Value) (N S : List (List UInt8)) (P : List (Nat × List UInt8)) (acts fuse kp : Nat) (keep : Nat) (w : World) (h : DevAt g vN vS vP N S P true acts fuse kp w) :
    Calls Try.prog 11 #[.pointer (some ⟨g, 0, none⟩), .int .u64 keep] w fun e w' => e = .returned (.tuple #[]) ∧ Below w.heap.size w w' := by
  have hba : Below w.heap.size w (w.alloc (.cells #[.int .u64 (keep : Int)] 23)) := (Below.refl _ _).alloc (Nat.le_refl _) _
  have HR1 := Lib.hid (h.below hba)
  have HBA := Lib.hid hba
  clear h hba
  go_enter Try.func11, Try.ntmps11
  go_upto_region 1 with (fail)
  obtain ⟨w1, hw1⟩ : ∃ x, x = w.alloc (.cells #[.int .u64 (keep : Int)] 23) := ⟨_, rfl⟩
  rw [← hw1] at HR1 HBA ⊢
  clear hw1
  have c4 := HR1.out.field 4
  simp only [devV, List.getElem?_toArray, List.getElem?_cons_zero, List.getElem?_cons_succ] at c4
  go_wp2_with fail
  refine bodyPost_ret (results_none rfl _ _ _) rfl ?_
  exact ⟨rfl, HBA.out⟩
theorem devO_nil {g : Nat} {vN vS vP : Value} : ∀ b, devO g vN vS (.slice none 0 0) b → devO g vN vS vP b := by
  rintro b (hb | hb | hb | hb)
  · exact .inl hb
  · exact .inr (.inl hb)
  · exact .inr (.inr (.inl hb))
  · cases hb
/-- A disk whose power goes. -/
theorem DevAt.gone {g : Nat} {vN vS : Value} {s : DS} {keep kp : Nat} {w : World} (hoff : s.off = false) (h : DevAt g vN vS (.slice none 0 0) (keptL keep 0 s.pend s.safe) (keptL keep 0 s.pend s.safe) [] true s.acts 0 kp w) :
    DiskIs (devO g vN vS (.slice none 0 0)) (.pointer (some ⟨g, 0, none⟩)) (goneS s keep) w := by
  rw [goneS_on hoff]
  exact ⟨g, vN, vS, _, kp, rfl, rfl, h, fun e => absurd rfl e⟩
theorem dev7_off (O : Nat → Prop) (v : Value) (s : DS) (keep : Nat) (w : World) (h : DiskIs O v s w) (hf : Fit s 999999) (hk : keep < 18446744073709551616) :
    Calls Try.prog 11 #[v, .int .u64 keep] w fun e w' => e = .returned (.tuple #[]) ∧ ∃ O', DiskIs O' v (goneS s keep) w' ∧ Turn O O' w w' := by
  obtain ⟨g, vN, vS, vP, kp, rfl, rfl, h, hkp⟩ := h
  cases hoff : s.off with
  | true =>
    rw [hoff] at h
    refine (dev_off_not g vN vS vP _ _ _ _ _ _ keep w h).mono fun e w' he => ?_
    refine ⟨he.1, _, ?_, Turn.of he.2⟩
    rw [show goneS s keep = s by rw [goneS, if_pos hoff]]
    exact ⟨g, vN, vS, vP, kp, rfl, rfl, by rw [hoff]; exact h.below he.2, hkp⟩
  | false =>
    rw [hoff] at h
    refine (dev_off g vN vS vP _ _ _ _ _ _ keep w h hk (Nat.le_trans hf.pend (by omega)) hf.ok.pend hf.ok.safe rfl hf.safe).mono fun e w' he => ?_
    exact ⟨he.1, _, DevAt.gone hoff he.2.1, ⟨he.2.2, fun b hb => .inl (devO_nil b hb)⟩⟩

set_option maxHeartbeats 4000000 in
set_option maxRecDepth 100000 in
theorem dev_act (O : Nat → Prop) (v : Value) (s : DS) (w : World) (h : DiskIs O v s w) (hoff : s.off = false) (ha : s.acts ≤ 1000000) (hf : s.fuse ≤ 9223372036854775807) (hk : s.keep < 18446744073709551616) (hp : s.pend.length ≤ 1000000) (hok : s.Ok) (hs : s.safe.length ≤ 16384) :
    Calls Try.prog 51 #[v] w fun e w' => e = .returned (.int .i64 ((if failS s then 7 else 0 : Nat) : Nat)) ∧ ∃ O', DiskIs O' v (actS s) w' ∧ Turn O O' w w' := by
  obtain ⟨g, vN, vS, vP, kp, rfl, rfl, h, hkp⟩ := h
  have c3 := h.field 3
  have c5 := h.field 5
  have c6 := h.field 6
  simp only [devV, List.getElem?_toArray, List.getElem?_cons_zero, List.getElem?_cons_succ] at c3 c5 c6
  have f3 := h.cells.frozen 3
  have f5 := h.cells.frozen 5
  have HA0 := Shut.mk (fun e => actS_zero (s := s) e)
  have HA1 := Shut.mk (fun e => actS_one (s := s) e)
  have HA2 := Shut.mk (fun e e' => actS_more (s := s) e e')
  have HF := Shut.mk (show failS s = (s.fuse == 1) from rfl)
  have H := Lib.hid h
  have HK := Lib.hid hk
  have HP := Lib.hid hp
  have HOK := Lib.hid hok
  have HSF := Lib.hid hs
  have HOFF := Shut.mk hoff
  have HKP := Shut.mk hkp
  have HS3 := Lib.hid (fun (v : Value) => h.cells.set 3 v)
  have HS5 := Lib.hid (fun (v u : Value) => (h.cells.set 3 v).set 5 u)
  obtain ⟨N, hN⟩ : ∃ N, nowS s = N := ⟨_, rfl⟩
  have HNW := Shut.mk hN
  clear h hk hp hok hs hkp hoff hN
  obtain ⟨ac, hac⟩ : ∃ ac, s.acts = ac := ⟨_, rfl⟩
  obtain ⟨fu, hfu⟩ : ∃ fu, s.fuse = fu := ⟨_, rfl⟩
  have HAC := Shut.mk hac
  have HFU := Shut.mk hfu
  rw [hac] at c3 HA0 HA1 HA2 ha
  rw [hfu] at c5 HA0 HA1 HA2 HF hf HS3 HS5 HKP
  clear hac hfu
  have hac1 : (ac : Int) + 1 = ((ac + 1 : Nat) : Int) := by omega
  have HAC1 := Shut.mk hac1
  clear hac1
  have hE : ∃ E : Nat, (if failS s then 7 else 0) = E := ⟨_, rfl⟩
  obtain ⟨E, hE⟩ := hE
  have HE := Shut.mk hE
  rw [hE]
  clear hE
  go_enter Try.func51, Try.ntmps51
  by_cases h0 : fu = 0
  · have hd : ((fu : Int) == 0) = true := by simp; omega
    have HZ := Shut.mk h0
    clear h0
    go_wp2_with fail
    go_ret
    rw [HAC1.out]
    refine ⟨by rw [← HE.out, HF.out, HZ.out]; rfl, _, ?_, ⟨(Only.refl _ w).setCell 3 _ (.inl (.inl rfl)), fun b hb => .inl hb⟩⟩
    rw [HA0.out HZ.out]
    exact ⟨g, vN, vS, vP, kp, rfl, rfl, H.out.fields ((But.refl g w).setCell 3 _) (HS3.out _), fun e => absurd HZ.out e⟩
  · by_cases h1 : fu = 1
    · have hne : ((fu : Int) == 0) = false := by simp; omega
      have hgt : ¬ (0 : Int) < (fu : Int) - 1 := by omega
      have hsub : (fu : Int) - 1 = ((0 : Nat) : Int) := by omega
      have HSUB := Shut.mk hsub
      have HZ := Shut.mk h1
      clear h0 h1 hsub
      go_wp2_with fail
      rw [HAC1.out, HSUB.out]
      have hr : DevAt g vN vS vP N s.safe s.pend s.off (ac + 1) 0 kp ((w.setCell ⟨g, 3, none⟩ (.int .i64 ((ac + 1 : Nat) : Int))).setCell ⟨g, 5, none⟩ (.int .i64 ((0 : Nat) : Int))) := by
        have h := H.out
        rw [HNW.out] at h
        exact h.fields (((But.refl g w).setCell 3 _).setCell 5 _) (HS5.out _ _)
      have ho : Only (devO g vN vS vP) w ((w.setCell ⟨g, 3, none⟩ (.int .i64 ((ac + 1 : Nat) : Int))).setCell ⟨g, 5, none⟩ (.int .i64 ((0 : Nat) : Int))) := ((Only.refl _ w).setCell 3 _ (.inl (.inl rfl))).setCell 5 _ (.inl (.inl rfl))
      obtain ⟨w2, hw2⟩ : ∃ x, x = (w.setCell ⟨g, 3, none⟩ (.int .i64 ((ac + 1 : Nat) : Int))).setCell ⟨g, 5, none⟩ (.int .i64 ((0 : Nat) : Int)) := ⟨_, rfl⟩
      rw [← hw2] at hr ho ⊢
      rw [HOFF.out] at hr
      obtain rfl : kp = s.keep := HKP.out (by rw [HZ.out]; decide)
      have HOF := Lib.hid (dev_off g vN vS vP N s.safe s.pend (ac + 1) 0 s.keep s.keep w2 hr HK.out HP.out HOK.out.pend HOK.out.safe HNW.out.symm HSF.out)
      have HO := Lib.hid ho
      clear hw2 hr ho
      refine HOF.out.mono ?_
      rintro e w3 ⟨rfl, hr3, ho3⟩
      have HR3 := Lib.hid hr3
      have HO3 := Lib.hid (HO.out.trans ho3 (fun b hb => .inl hb))
      clear hr3 ho3 HOF HO
      go_wp2_with fail
      go_ret
      refine ⟨by rw [← HE.out, HF.out, HZ.out]; rfl, devO g vN vS (.slice none 0 0), ?_, ⟨HO3.out, fun b hb => .inl (devO_nil b hb)⟩⟩
      rw [HA1.out HZ.out]
      exact DevAt.gone (s := { s with off := s.off, acts := ac + 1, fuse := 0, keep := s.keep }) HOFF.out HR3.out
    · have hne : ((fu : Int) == 0) = false := by simp; omega
      have hgt : (1 : Int) < (fu : Int) := by omega
      have hgt2 : (0 : Int) < (fu : Int) - 1 := by omega
      have hsub : (fu : Int) - 1 = ((fu - 1 : Nat) : Int) := by omega
      have HSUB := Shut.mk hsub
      have HZ0 := Shut.mk h0
      have HZ1 := Shut.mk h1
      clear h0 h1 hsub
      go_wp2_with fail
      go_ret
      rw [HAC1.out, HSUB.out]
      refine ⟨by rw [← HE.out, HF.out]; have := HZ1.out; simp [this], _, ?_, ⟨((Only.refl _ w).setCell 3 _ (.inl (.inl rfl))).setCell 5 _ (.inl (.inl rfl)), fun b hb => .inl hb⟩⟩
      rw [HA2.out HZ0.out HZ1.out]
      exact ⟨g, vN, vS, vP, kp, rfl, rfl, H.out.fields (((But.refl g w).setCell 3 _).setCell 5 _) (HS5.out _ _), fun _ => HKP.out HZ0.out⟩
set_option maxHeartbeats 1000000 in
theorem dev_sync1 (i : Int) (w : World) : Calls Try.prog 52 #[.int .i64 i] w fun e w' => e = .returned (.bool true) ∧ w' = w := by
  go_enter Try.func52, Try.ntmps52
  go_wp2_with fail
  go_ret
  exact ⟨rfl, rfl⟩
set_option maxHeartbeats 4000000 in
set_option maxRecDepth 100000 in
theorem dev7_sync (O : Nat → Prop) (v : Value) (s : DS) (w : World) (h : DiskIs O v s w) (hf : Fit s 999999) :
    Calls Try.prog 39 #[v] w fun e w' => e = .returned (.int .i64 (syncE s : Nat)) ∧ ∃ O', DiskIs O' v (syncS s) w' ∧ Turn O O' w w' := by
  have h' := h
  obtain ⟨g, vN, vS, vP, kp, rfl, rfl, hd, hkp⟩ := h'
  have c4 := hd.field 4
  simp only [devV, List.getElem?_toArray, List.getElem?_cons_zero, List.getElem?_cons_succ] at c4
  have H := Lib.hid h
  cases hof : s.off with
  | true =>
    have HE := Shut.mk (show syncE s = 7 by rw [syncE, if_pos (.inl hof)])
    have HS := Shut.mk (show syncS s = s by rw [syncS, if_pos hof])
    rw [hof] at c4
    clear h hd hkp hf hof
    go_enter Try.func39, Try.ntmps39
    go_wp2_with fail
    go_ret
    exact ⟨by rw [HE.out]; rfl, _, by rw [HS.out]; exact H.out, Turn.refl _ _⟩
  | false =>
    rw [hof] at c4
    have HAC := Lib.hid (dev_act _ _ s w h hof (Nat.le_trans hf.acts (by omega)) hf.fuse hf.keep (Nat.le_trans hf.pend (by omega)) hf.ok hf.safe)
    cases hfs : failS s with
    | true =>
      have HE := Shut.mk (show syncE s = 7 by rw [syncE, if_pos (.inr hfs)])
      have HS := Shut.mk (show syncS s = actS s by rw [syncS, if_neg (by rw [hof]; decide), if_pos hfs])
      rw [hfs, if_pos rfl] at HAC
      clear h hd hkp hf hof hfs
      go_enter Try.func39, Try.ntmps39
      go_wp2_with fail
      refine HAC.out.mono ?_
      rintro e w1 ⟨rfl, O', hr, ht⟩
      have HR := Lib.hid hr
      have HT := Lib.hid ht
      clear hr ht HAC
      go_wp2_with fail
      go_ret
      exact ⟨by rw [HE.out]; rfl, O', by rw [HS.out]; exact HR.out, HT.out⟩
    | false =>
      have HE := Shut.mk (show syncE s = 0 by rw [syncE, if_neg (by rw [hof, hfs]; decide)])
      obtain ⟨k1, k2, k3⟩ := actS_keep hfs
      have HS := Shut.mk (show syncS s = { actS s with safe := applyL (actS s).pend (actS s).safe, pend := [] } by rw [syncS, if_neg (by rw [hof]; decide), if_neg (by rw [hfs]; decide), k1, k2])
      rw [hfs, if_neg (by decide)] at HAC
      have HOK := Lib.hid hf.ok.act
      have HP := Lib.hid (show (actS s).pend.length ≤ 1000000 by rw [k1]; exact Nat.le_trans hf.pend (by omega))
      have HSF := Lib.hid (show (actS s).safe.length ≤ 16384 by rw [k2]; exact hf.safe)
      obtain ⟨t, ht⟩ : ∃ t, actS s = t := ⟨_, rfl⟩
      rw [ht] at HAC HS HOK HP HSF
      clear h hd hkp hf hof hfs k1 k2 k3 ht
      go_enter Try.func39, Try.ntmps39
      go_wp2_with fail
      refine HAC.out.mono ?_
      rintro e w1 ⟨rfl, O', hr, ht⟩
      obtain ⟨g', vN1, vS1, vP1, kp1, hv1, rfl, hd1, hkp1⟩ := hr
      obtain rfl : g = g' := by simpa using hv1
      have HT := Lib.hid ht
      have HKP := Shut.mk hkp1
      have HST := Lib.hid (dev_settle g vN1 vS1 vP1 (nowS t) t.safe t.pend t.off t.acts t.fuse kp1 52 _ #[] (fun _ => true) w1 hd1 Try.func52 rfl rfl
        (fun i hi w' hw' => dev_sync1 i w') HP.out HOK.out.pend HOK.out.safe HOK.out.now (nowS_len t) HSF.out)
      rw [show nowS t = applyL t.pend t.safe from rfl, fix_all, keptF_all] at HST
      clear ht hd1 hv1 hkp1 HAC c4
      go_wp2_with fail
      refine HST.out.mono ?_
      rintro e w2 ⟨rfl, hr2, ho2⟩
      have HR2 := Lib.hid hr2
      have HT2 := Lib.hid (HT.out.trans (⟨ho2, fun b hb => .inl (devO_nil b hb)⟩ : Turn (devO g vN1 vS1 vP1) (devO g vN1 vS1 (.slice none 0 0)) w1 w2))
      clear hr2 ho2 HST HT
      go_wp2_with fail
      go_ret
      refine ⟨by rw [HE.out]; rfl, _, ?_, HT2.out⟩
      rw [HS.out]
      exact ⟨g, vN1, vS1, _, kp1, rfl, rfl, HR2.out, HKP.out⟩
end Go.Proofs.Ythnagnjcbgcnfaa
