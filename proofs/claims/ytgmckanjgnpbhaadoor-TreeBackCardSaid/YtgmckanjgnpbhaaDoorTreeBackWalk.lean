/-
  The walk of the law TreeBack.
-/
import Derived.Test.YtgmckanjgnpbhaaDoorBytes5
import Derived.Test.YtgmckanjgnpbhaaDoorClimb
namespace Go.Proofs.YtgmckanjgnpbhaaDoor.treeBack
open Go.RowKit Go.BigFrame

set_option maxHeartbeats 2000000 in
set_option maxRecDepth 100000 in
theorem walk (w : World) (hk : KAt w) (ao : Option Addr) (L : List (List Nat)) (cap : Nat) (hE : EAt ao L w) (hL : Elems L) (hn : L.length ≤ 8796093021952) (_hnil : ao = none → cap = 0) (a : Int) (wa : (Lit.int .i64 a).wf = true) :
    Calls Tryd.prog 5 #[.slice ao L.length cap, .int .i64 a] w fun e w' => e = .returned (.bool true) ∧ Below w.heap.size w w' := by
  have HK := Lib.hid hk
  have HE := Lib.hid hE
  have LE := Lib.hid hL
  have BA := Lib.hid (bounds_i64 wa)
  clear hk hE hL wa
  go_enter Tryd.func5, Tryd.ntmps5
  go_wp2_with fail
  refine (alive5_any w HK.out).mono ?_
  rintro e w2 ⟨rfl, hb2⟩
  have HB2 := Lib.hid hb2
  have HK2 := Lib.hid (HK.out.below hb2)
  clear hb2 HK
  go_wp2_with fail
  refine (elems_any L ao cap w2 LE.out (HE.out.below HB2.out) hn).mono ?_
  rintro e w3 ⟨⟨v, rfl, ho⟩, hb3⟩
  obtain ⟨a1, c1, rfl⟩ := ho.form
  have HO3 := Lib.hid ho
  have HB3 := Lib.hid (HB2.out.trans (hb3.mono HB2.out.size))
  have HK3 := Lib.hid (HK2.out.below hb3)
  clear ho hb3 HB2 HK2
  go_wp2_with fail
  refine (ref_good L.length w3).mono ?_
  rintro e w4 ⟨rfl, rfl⟩
  cases hgood : goodN L.length with
  | false =>
    clear hgood
    go_wp2_with fail
    go_ret
    exact ⟨rfl, HB3.out⟩
  | true =>
    by_cases hlong : 32 < L.length
    · have hl2 : (32 : Int) < L.length := by omega
      clear hgood
      go_wp2_with fail
      go_ret
      exact ⟨rfl, HB3.out⟩
    · have hl2 : ¬ (32 : Int) < L.length := by omega
      obtain ⟨h, h8, hp⟩ := goodN_pow hgood
      have HG := Shut.mk hgood
      have HN := Shut.mk hp
      obtain ⟨hx1, hx2⟩ := atN_ok LE.out h 0 (by rw [Nat.zero_mul, hp]; exact Nat.two_pow_pos h)
      have HH := Shut.mk (show heightN L.length = h by rw [hp, heightN_pow])
      have HCR := Shut.mk (fun i (hi : i < L.length) => climb_root L (h := h) (i := i) (by rw [← hp]; exact hi))
      obtain ⟨x, hx⟩ : ∃ x, atN L h 0 = x := ⟨_, rfl⟩
      rw [hx] at hx1 hx2 HCR
      have HXE := Shut.mk hx
      have HIX := Lib.hid (show (Tryd.prog.info? 27).map (·.size) = some x.length by rw [hx1]; exact Tryd.infoE)
      have HLX := Lib.hid (show (List.replicate 16 0).length = x.length by rw [hx1]; rfl)
      have e2 := fun w => equal_elem x x hx1 hx1 hx2 hx2 w
      rw [beq_self_eq_true] at e2
      have hpos : 0 < L.length := by rw [hp]; exact Nat.two_pow_pos h
      clear hgood hp hx hx1 hx2
      obtain ⟨g, c2, hv, _, hg⟩ := HO3.out.formB hpos
      obtain rfl : a1 = some ⟨g, 0, none⟩ := by injection hv
      have hef : ((h : Int) != (h : Int)) = false := by simp
      clear hv
      go_wp2_with fail
      refine (dev_root L h _ c1 w4 LE.out (HO3.out.at LE.out) HG.out HN.out h8 HK3.out).mono ?_
      rintro e w5 ⟨rfl, hb4⟩
      rw [HXE.out]
      have HO4 := Lib.hid (HO3.out.below hb4)
      have HB4 := Lib.hid (HB3.out.trans (hb4.mono HB3.out.size))
      have HK4 := Lib.hid (HK3.out.below hb4)
      clear hb4 HO3 HB3 HK3
      have HX := Lib.hid (show Blk w5.heap.size 27 .u8 (List.replicate 16 0) (w5.alloc (.cells (nums .u8 (List.replicate 16 0)).toArray 27)) from heap_alloc_new w5 _)
      go_wp2_with (refine wpList_store_nums rfl 27 _ _ rfl rfl w5.heap.size .u8 _ x 27 rfl rfl HX.out HIX.out HLX.out ?_)
      intro w6 hc hb
      have HX5 := Lib.hid (show Blk w5.heap.size 27 .u8 x w6 from hc.out)
      have hb5 : Below w5.heap.size w5 w6 := But.toBelow ((Below.refl _ w5).alloc (Nat.le_refl _) _) hb.out (Nat.le_refl _) (by simp)
      have HO5 := Lib.hid (HO4.out.below hb5)
      have HB5 := Lib.hid (HB4.out.trans (hb5.mono HB4.out.size))
      have HK5 := Lib.hid (HK4.out.below hb5)
      obtain ⟨gx, hgx⟩ : ∃ g, g = w5.heap.size := ⟨_, rfl⟩
      rw [← hgx] at HX5 ⊢
      clear hc hb hb5 HX HO4 HB4 HK4 hgx
      go_wp2_with fail
      go_loopw [33] (fun n wq => ∃ k : Nat, k ≤ L.length ∧ n = .int .i64 k ∧ Below w6.heap.size w6 wq) (fun n _ => L.length - (intOf n).toNat)
      case atStart => exact ⟨0, by omega, rfl, Below.refl _ _⟩
      case round =>
        obtain ⟨k, hk, rfl, hb⟩ := hrel
        have HO := Lib.hid (HO5.out.below hb)
        have HX := Lib.hid (HX5.out.below hb)
        have HKr := Lib.hid (HK5.out.below hb)
        have HB := Lib.hid hb
        clear hb
        by_cases hlk : k < L.length
        · have hlk2 : (k : Int) < (L.length : Int) := by omega
          go_wp2_with fail
          refine (dev_path L h k _ c1 wr LE.out (HO.out.at LE.out) HG.out HN.out h8 hlk HKr.out).mono ?_
          rintro e w7 ⟨⟨v7, rfl, ho7⟩, hb7⟩
          obtain ⟨a7, c7, rfl⟩ := ho7.form
          have hPE := pathN_ok LE.out HN.out hlk (Nat.le_refl h)
          have hPL := pathN_len L k h
          have hCR := HCR.out k hlk
          have HP7 := Lib.hid (ho7.at hPE)
          have HO7 := Lib.hid (HO.out.below hb7)
          have HX7 := Lib.hid (HX.out.below hb7)
          have HK7 := Lib.hid (HKr.out.below hb7)
          have HB7 := Lib.hid (HB.out.trans (hb7.mono HB.out.size))
          obtain ⟨P, hP⟩ : ∃ P, pathN L k h = P := ⟨_, rfl⟩
          rw [hP] at hPE hPL hCR HP7 ⊢
          rw [hPL]
          have HPE := Lib.hid hPE
          have HPL := Shut.mk hPL
          have HGL := Lib.hid (show g < w7.heap.size by have := World.ownsRow.lt HO7.out g rfl; omega)
          have hy := (HO7.out.at LE.out).get hlk
          rw [Nat.zero_add] at hy
          obtain ⟨hy1, hy2⟩ := LE.out.getD hlk
          obtain ⟨y, hye⟩ : ∃ y, L.getD k [] = y := ⟨_, rfl⟩
          rw [hye] at hy hy1 hy2 hCR
          have HY := Lib.hid hy
          have HY1 := Lib.hid hy1
          have HY2 := Lib.hid hy2
          have HIY := Lib.hid (show (Tryd.prog.info? 27).map (·.size) = some y.length by rw [hy1]; exact Tryd.infoE)
          have HC1 := Lib.hid (fun w hE hk => dev_climb y (k : Int) P a7 c7 w hy1 hy2 (by omega) (by omega) hPE hE (by rw [hPL]; omega) hk)
          rw [hPL, hCR] at HC1
          clear ho7 hb7 HO HX HKr HB hP hPE hPL hCR hy hye hy1 hy2
          go_upto_region 12 with (fail)
          refine wp_region_class (fun w' => SS w7 w') (by kernel_rfl) (by kernel_rfl) (SS.start HK7.out) ?_
          repeat (first
            | go_big_quiet_skip
            | (go_big_quiet_want; refine quiet_load_nums 27 _ rfl gx .u8 x 27 _ rfl (fun w' h => HX7.out.below h.1) Tryd.underlying27 rfl HIX.out ?_; go_big_quiet_on; simp only [Act.put, List.setIfInBounds_toArray, List.set_cons_zero, List.set_cons_succ])
            | (go_big_quiet_want; refine quiet_load_elem 27 _ rfl g (k * 16) y _ rfl (fun w' h => rangeAt_below HY.out h.1 HGL.out) Tryd.underlying27 rfl HIY.out ?_; go_big_quiet_on; simp only [Act.put, List.setIfInBounds_toArray, List.set_cons_zero, List.set_cons_succ])
            | go_big_quiet_step ((intro hs'; first
                | rfl
                | (go_at_call 14; exact (height_any L.length _ (by omega)).mono fun e w' h => ⟨h.1.trans (by rw [HH.out]), by rw [h.2]; exact hs'⟩)
                | (go_at_call 17; exact (HC1.out _ (HP7.out.below hs'.1) hs'.2).mono fun e w' h => ⟨h.1, hs'.next h.2⟩))))
          refine wpQuiet_nil ?_
          intro w8 hs8
          have HO8 := Lib.hid (HO7.out.below hs8.1)
          have HP8 := Lib.hid (HP7.out.below hs8.1)
          have HB8 := Lib.hid (HB7.out.trans (hs8.1.mono HB7.out.size))
          have HK8 := Lib.hid hs8.2
          clear hs8 HO7 HP7 HB7 HK7 HX7 HY HGL HC1
          go_upto_region 15 with (fail)
          obtain ⟨q, hq, hqe⟩ := idx_some a hpos (by omega)
          rw [hqe]
          have hq2 : (q : Int) < (L.length : Int) := by omega
          have HGL := Lib.hid (show g < w8.heap.size by have := World.ownsRow.lt HO8.out g rfl; omega)
          have hz := (HO8.out.at LE.out).get hq
          rw [Nat.zero_add] at hz
          obtain ⟨hz1, hz2⟩ := LE.out.getD hq
          obtain ⟨z, hze⟩ : ∃ z, L.getD q [] = z := ⟨_, rfl⟩
          rw [hze] at hz hz1 hz2
          have hC1 := climbN_len hz1 (q : Int) P P.length
          have hC2 := climbN_lt hz2 (q : Int) P P.length
          have HZ := Lib.hid hz
          have HZ1 := Lib.hid hz1
          have HZ2 := Lib.hid hz2
          have HIZ := Lib.hid (show (Tryd.prog.info? 27).map (·.size) = some z.length by rw [hz1]; exact Tryd.infoE)
          obtain ⟨C, hC⟩ : ∃ C, climbN z (q : Int) P P.length = C := ⟨_, rfl⟩
          rw [hC] at hC1 hC2
          have e3 := fun w => equal_elem C C hC1 hC1 hC2 hC2 w
          rw [beq_self_eq_true] at e3
          have HC1 := Lib.hid (fun w hE hk => dev_climb z (q : Int) P a7 c7 w HZ1.out HZ2.out (by omega) (by omega) HPE.out hE (by rw [HPL.out]; omega) hk)
          have HC2 := Lib.hid (fun w hE => ref_climb z (q : Int) P a7 c7 w HZ1.out HZ2.out (by omega) (by omega) HPE.out hE (by rw [HPL.out]; omega))
          rw [hC, HPL.out] at HC1 HC2
          clear hze hz hz1 hz2 hC1 hC2 hC hqe
          refine wp_region_class (fun w' => SS w8 w') (by kernel_rfl) (by kernel_rfl) (SS.start HK8.out) ?_
          repeat (first
            | (go_big_quiet_want; refine quiet_load_elem 27 _ rfl g (q * 16) z _ rfl (fun w' h => rangeAt_below HZ.out h.1 HGL.out) Tryd.underlying27 rfl HIZ.out ?_; go_big_quiet_on; simp only [Act.put, List.setIfInBounds_toArray, List.set_cons_zero, List.set_cons_succ])
            | go_big_quiet_step ((intro hs'; first
                | rfl
                | (go_at_call 17; exact (HC1.out _ (HP8.out.below hs'.1) hs'.2).mono fun e w' h => ⟨h.1, hs'.next h.2⟩)
                | (go_at_call 18; exact (HC2.out _ (HP8.out.below hs'.1)).mono fun e w' h => ⟨h.1, hs'.next h.2⟩))))
          refine wpQuiet_nil ?_
          intro w9 hs9
          have HB9 := Lib.hid (HB8.out.trans (hs9.1.mono HB8.out.size))
          clear hs9 HO8 HP8 HB8 HK8 HZ HGL HC1 HC2 e3 e2
          go_wp2_with fail
          exact ⟨⟨k + 1, by omega, by go_num, HB9.out⟩, by simp [intOf]; omega⟩
        · obtain rfl : k = L.length := by omega
          have hnw : ¬ (L.length : Int) < (L.length : Int) := by omega
          have HBr := Lib.hid (HB5.out.trans (HB.out.mono HB5.out.size))
          clear HO HX HKr HB HO5 HX5 HK5 HB5
          go_wp2_with fail
          go_ret
          exact ⟨rfl, HBr.out⟩
end Go.Proofs.YtgmckanjgnpbhaaDoor.treeBack
