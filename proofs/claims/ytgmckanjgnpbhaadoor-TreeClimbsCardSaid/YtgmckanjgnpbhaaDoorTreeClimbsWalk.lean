/-
  The walk of the law TreeClimbs.
-/
import Derived.Test.YtgmckanjgnpbhaaDoorAlive5
import Derived.Test.YtgmckanjgnpbhaaDoorClimb
namespace Go.Proofs.YtgmckanjgnpbhaaDoor.treeClimbs
open Go.RowKit Go.BigFrame

set_option maxHeartbeats 1000000 in
set_option maxRecDepth 100000 in
theorem walk (w : World) (hk : KAt w) (d : List Nat) (hd : d.length = 16) (ld : ∀ y ∈ d, y < 256) (a : Int) (wa : (Lit.int .i64 a).wf = true)
    (ao : Option Addr) (L : List (List Nat)) (cap : Nat) (hE : EAt ao L w) (hL : Elems L) (hn : L.length ≤ 8796093021952) (_hnil : ao = none → cap = 0) (lev : Int) (wl : (Lit.int .i64 lev).wf = true) :
    Calls Tryd.prog 4 #[.agg (nums .u8 d).toArray, .int .i64 a, .slice ao L.length cap, .int .i64 lev] w fun e w' => e = .returned (.bool true) ∧ Below w.heap.size w w' := by
  have HK := Lib.hid hk
  have BA := Lib.hid (bounds_i64 wa)
  have BL := Lib.hid (bounds_i64 wl)
  have HD := Lib.hid hd
  have LD := Lib.hid ld
  have HE := Lib.hid hE
  have LE := Lib.hid hL
  clear hk wa wl hd ld hE hL
  go_enter Tryd.func4, Tryd.ntmps4
  go_upto_region 1 with (fail)
  obtain ⟨w1, hw1⟩ : ∃ x', x' = w.alloc (.cells (nums .u8 d).toArray 26) := ⟨_, rfl⟩
  rw [← hw1]
  have hb1 : Below w.heap.size w w1 := by rw [hw1]; exact (Below.refl _ _).alloc (Nat.le_refl _) _
  have HD1 := Lib.hid (show Blk w.heap.size 26 .u8 d w1 by rw [hw1]; exact heap_alloc_new w _)
  have HB1 := Lib.hid hb1
  have HK1 := Lib.hid (HK.out.below hb1)
  have HI := Lib.hid (show (Tryd.prog.info? 26).map (·.size) = some d.length by rw [HD.out]; kernel_rfl)
  obtain ⟨gd, hgd⟩ : ∃ g, g = w.heap.size := ⟨_, rfl⟩
  rw [← hgd] at HD1 ⊢
  clear hb1 hw1 HK hgd
  go_wp2_with fail
  refine (alive5_any w1 HK1.out).mono ?_
  rintro e w2 ⟨rfl, hb2⟩
  have HD2 := Lib.hid (HD1.out.below hb2)
  have HB2 := Lib.hid (HB1.out.trans (hb2.mono HB1.out.size))
  have HK2 := Lib.hid (HK1.out.below hb2)
  clear hb2 HD1 HB1 HK1
  by_cases hlong : 20 < L.length
  · have hl2 : (20 : Int) < L.length := by omega
    go_wp2_with fail
    go_ret
    exact ⟨rfl, HB2.out⟩
  · have hl2 : ¬ (20 : Int) < L.length := by omega
    go_wp2_with fail
    refine (elems_any L ao cap w2 LE.out (HE.out.below HB2.out) hn).mono ?_
    rintro e w3 ⟨⟨v, rfl, ho⟩, hb3⟩
    obtain ⟨a1, c1, rfl⟩ := ho.form
    have HO3 := Lib.hid ho
    have HE3 := Lib.hid (ho.at LE.out)
    have HD3 := Lib.hid (HD2.out.below hb3)
    have HB3 := Lib.hid (HB2.out.trans (hb3.mono HB2.out.size))
    have HK3 := Lib.hid (HK2.out.below hb3)
    clear ho hb3 HD2 HB2 HK2
    have hC1 := climbN_len HD.out a L L.length
    have hC2 := climbN_lt LD.out a L L.length
    obtain ⟨C, hC⟩ : ∃ C, climbN d a L L.length = C := ⟨_, rfl⟩
    rw [hC] at hC1 hC2
    have HC := Shut.mk hC
    have e2 := fun w => equal_elem C C hC1 hC1 hC2 hC2 w
    rw [beq_self_eq_true] at e2
    clear hC hC1 hC2
    go_upto_region 6 with (fail)
    refine wp_region_class (fun w' => SS w3 w') (by kernel_rfl) (by kernel_rfl) (SS.start HK3.out) ?_
    repeat (first
      | (go_big_quiet_want; refine quiet_load_nums 26 _ rfl gd .u8 d 26 _ rfl (fun w' h => HD3.out.below h.1) Tryd.underlying26 rfl HI.out ?_; go_big_quiet_on; simp only [Act.put, List.setIfInBounds_toArray, List.set_cons_zero, List.set_cons_succ])
      | go_big_quiet_step ((intro hs'; first
          | rfl
          | (go_at_call 17; exact (dev_climb d a L a1 c1 _ HD.out LD.out BA.out.1 BA.out.2 LE.out (HE3.out.below hs'.1) (by omega) hs'.2).mono fun e w' h => ⟨h.1.trans (by rw [HC.out]), hs'.next h.2⟩)
          | (go_at_call 18; exact (ref_climb d a L a1 c1 _ HD.out LD.out BA.out.1 BA.out.2 LE.out (HE3.out.below hs'.1) (by omega)).mono fun e w' h => ⟨h.1.trans (by rw [HC.out]), hs'.next h.2⟩))))
    refine wpQuiet_nil ?_
    intro w4 hs4
    have HD4 := Lib.hid (HD3.out.below hs4.1)
    have HO4 := Lib.hid (HO3.out.below hs4.1)
    have HB4 := Lib.hid (HB3.out.trans (hs4.1.mono HB3.out.size))
    have HK4 := Lib.hid hs4.2
    clear hs4 e2 HD3 HO3 HE3 HB3 HK3 HC
    by_cases h0 : L.length = 0
    · have h0' : ((L.length : Int) == 0) = true := by simp [h0]
      go_upto_region 8 with (fail)
      refine wp_region_class (fun w' => SS w4 w') (by kernel_rfl) (by kernel_rfl) (SS.start HK4.out) ?_
      repeat (first
        | go_big_quiet_skip
        | go_big_quiet_step ((intro hs'; rfl)))
      refine wpQuiet_nil ?_
      intro w5 hs5
      have HB5 := Lib.hid (HB4.out.trans (hs5.1.mono HB4.out.size))
      clear hs5
      go_wp2_with fail
      go_ret
      exact ⟨rfl, HB5.out⟩
    · have h0' : ((L.length : Int) == 0) = false := by rw [beq_eq_false_iff_ne]; omega
      have h1 : (0 : Int) < L.length := by omega
      obtain ⟨g, c2, hv, _, hg⟩ := HO4.out.formB (by omega)
      obtain rfl : a1 = some ⟨g, 0, none⟩ := by injection hv
      have h2 : 0 < L.length := by omega
      have hx := (HO4.out.at LE.out).get h2
      simp only [Nat.zero_mul, Nat.add_zero] at hx
      obtain ⟨hx1, hx2⟩ := LE.out.getD h2
      obtain ⟨x, hxe⟩ : ∃ x, L.getD 0 [] = x := ⟨_, rfl⟩
      rw [hxe] at hx hx1 hx2
      have HX := Lib.hid hx
      have HX1 := Lib.hid hx1
      have HX2 := Lib.hid hx2
      have HGL := Lib.hid hg
      have hU1 := upN_len d x lev a
      have hU2 := upN_lt d x lev a
      obtain ⟨U, hU⟩ : ∃ U, upN d x lev a = U := ⟨_, rfl⟩
      rw [hU] at hU1 hU2
      have HU := Shut.mk hU
      have e2 := fun w => equal_elem U U hU1 hU1 hU2 hU2 w
      rw [beq_self_eq_true] at e2
      have HIX := Lib.hid (show (Tryd.prog.info? 27).map (·.size) = some x.length by rw [HX1.out]; exact Tryd.infoE)
      clear hv hg hx hx1 hx2 hxe hU hU1 hU2 HO4
      go_upto_region 8 with (fail)
      refine wp_region_class (fun w' => SS w4 w') (by kernel_rfl) (by kernel_rfl) (SS.start HK4.out) ?_
      repeat (first
        | go_big_quiet_skip
        | (go_big_quiet_want; refine quiet_load_nums 26 _ rfl gd .u8 d 26 _ rfl (fun w' h => HD4.out.below h.1) Tryd.underlying26 rfl HI.out ?_; go_big_quiet_on; simp only [Act.put, List.setIfInBounds_toArray, List.set_cons_zero, List.set_cons_succ])
        | (go_big_quiet_want; refine quiet_load_elem 27 _ rfl g 0 x _ rfl (fun w' h => rangeAt_below HX.out h.1 HGL.out) Tryd.underlying27 rfl HIX.out ?_; go_big_quiet_on; simp only [Act.put, List.setIfInBounds_toArray, List.set_cons_zero, List.set_cons_succ])
        | go_big_quiet_step ((intro hs'; first
            | rfl
            | (go_at_call 19; exact (dev_up d x lev a _ HD.out LD.out HX1.out HX2.out BL.out.1 BL.out.2 BA.out.1 BA.out.2 hs'.2).mono fun e w' h => ⟨h.1.trans (by rw [HU.out]), hs'.next h.2⟩)
            | (go_at_call 20; exact (ref_up d x lev a _ HD.out LD.out HX1.out HX2.out BL.out.1 BL.out.2 BA.out.1 BA.out.2).mono fun e w' h => ⟨h.1.trans (by rw [HU.out]), hs'.next h.2⟩))))
      refine wpQuiet_nil ?_
      intro w5 hs5
      have HB5 := Lib.hid (HB4.out.trans (hs5.1.mono HB4.out.size))
      clear hs5 e2
      go_wp2_with fail
      go_ret
      exact ⟨rfl, HB5.out⟩
end Go.Proofs.YtgmckanjgnpbhaaDoor.treeClimbs
