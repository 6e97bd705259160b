/-
  The walk of the law TreeHalves.
-/
import Derived.Test.YtgmckanjgnpbhaaDoorBytes5
namespace Go.Proofs.YtgmckanjgnpbhaaDoor.treeHalves
open Go.RowKit Go.BigFrame

set_option maxHeartbeats 2000000 in
set_option maxRecDepth 100000 in
theorem walk (w : World) (hk : KAt w) (ao : Option Addr) (L : List (List Nat)) (cap : Nat) (hE : EAt ao L w) (hL : Elems L) (hn : L.length ≤ 8796093021952) (_hnil : ao = none → cap = 0) (a : Int) (_wa : (Lit.int .i64 a).wf = true) (c : Int) (wc : (Lit.int .u8 c).wf = true) :
    Calls Tryd.prog 7 #[.slice ao L.length cap, .int .i64 a, .int .u8 c] w fun e w' => e = .returned (.bool true) ∧ Below w.heap.size w w' := by
  have HK := Lib.hid hk
  have HE := Lib.hid hE
  have LE := Lib.hid hL
  obtain ⟨cn, hcn, hcb⟩ : ∃ m : Nat, c = m ∧ m < 256 := by
    simp only [Lit.wf, Bool.and_eq_true, decide_eq_true_eq] at wc
    have h0 : (0 : Int) ≤ c := wc.1
    have h1 : c ≤ (255 : Int) := wc.2
    exact ⟨c.toNat, by omega, by omega⟩
  subst hcn
  clear hk hE hL wc
  go_enter Tryd.func7, Tryd.ntmps7
  go_wp2_with fail
  refine (alive5_any w HK.out).mono ?_
  rintro e w2 ⟨rfl, hb2⟩
  have HB2 := Lib.hid hb2
  have HK2 := Lib.hid (HK.out.below hb2)
  clear hb2 HK
  go_wp2_with fail
  refine (elems_any L ao cap w2 LE.out (HE.out.below HB2.out) hn).mono ?_
  rintro e w3 ⟨⟨v, rfl, ho⟩, hb3⟩
  obtain ⟨a1, c1, rfl⟩ := ho.form
  have HO3 := Lib.hid ho
  have HB3 := Lib.hid (HB2.out.trans (hb3.mono HB2.out.size))
  have HK3 := Lib.hid (HK2.out.below hb3)
  clear ho hb3 HB2 HK2
  go_wp2_with fail
  refine (ref_good L.length w3).mono ?_
  rintro e w4 ⟨rfl, rfl⟩
  cases hgood : goodN L.length with
  | false =>
    clear hgood
    go_wp2_with fail
    go_ret
    exact ⟨rfl, HB3.out⟩
  | true =>
    by_cases hlong : 16 < L.length
    · have hl2 : (16 : Int) < L.length := by omega
      clear hgood
      go_wp2_with fail
      go_ret
      exact ⟨rfl, HB3.out⟩
    · have hl2 : ¬ (16 : Int) < L.length := by omega
      obtain ⟨h, h8, hp⟩ := goodN_pow hgood
      have HG := Shut.mk hgood
      have HN := Shut.mk hp
      obtain ⟨hx1, hx2⟩ := atN_ok LE.out h 0 (by rw [Nat.zero_mul, hp]; exact Nat.two_pow_pos h)
      have HH := Shut.mk (show heightN L.length = h by rw [hp, heightN_pow])
      obtain ⟨x, hx⟩ : ∃ x, atN L h 0 = x := ⟨_, rfl⟩
      rw [hx] at hx1 hx2
      have HXE := Shut.mk hx
      have HIX := Lib.hid (show (Tryd.prog.info? 27).map (·.size) = some x.length by rw [hx1]; exact Tryd.infoE)
      have HLX := Lib.hid (show (List.replicate 16 0).length = x.length by rw [hx1]; rfl)
      have HX1 := Lib.hid hx1
      have HX2 := Lib.hid hx2
      have hpos : 0 < L.length := by rw [hp]; exact Nat.two_pow_pos h
      clear hgood hp hx hx1 hx2
      obtain ⟨g, c2, hv, _, hg⟩ := HO3.out.formB hpos
      obtain rfl : a1 = some ⟨g, 0, none⟩ := by injection hv
      clear hv
      go_wp2_with fail
      refine (dev_root L h _ c1 w4 LE.out (HO3.out.at LE.out) HG.out HN.out h8 HK3.out).mono ?_
      rintro e w5 ⟨rfl, hb4⟩
      rw [HXE.out]
      have HO4 := Lib.hid (HO3.out.below hb4)
      have HB4 := Lib.hid (HB3.out.trans (hb4.mono HB3.out.size))
      have HK4 := Lib.hid (HK3.out.below hb4)
      clear hb4 HO3 HB3 HK3
      have HX := Lib.hid (show Blk w5.heap.size 27 .u8 (List.replicate 16 0) (w5.alloc (.cells (nums .u8 (List.replicate 16 0)).toArray 27)) from heap_alloc_new w5 _)
      go_wp2_with (refine wpList_store_nums rfl 27 _ _ rfl rfl w5.heap.size .u8 _ x 27 rfl rfl HX.out HIX.out HLX.out ?_)
      intro w6 hc hb
      have HX5 := Lib.hid (show Blk w5.heap.size 27 .u8 x w6 from hc.out)
      have hb5 : Below w5.heap.size w5 w6 := But.toBelow ((Below.refl _ w5).alloc (Nat.le_refl _) _) hb.out (Nat.le_refl _) (by simp)
      have HO5 := Lib.hid (HO4.out.below hb5)
      have HB5 := Lib.hid (HB4.out.trans (hb5.mono HB4.out.size))
      have HK5 := Lib.hid (HK4.out.below hb5)
      obtain ⟨gx, hgx⟩ : ∃ g, g = w5.heap.size := ⟨_, rfl⟩
      rw [← hgx] at HX5 ⊢
      clear hc hb hb5 HX HO4 HB4 HK4 hgx
      have hba : Below w6.heap.size w6 (w6.alloc (.cells #[] 27)) := (Below.refl _ _).alloc (Nat.le_refl _) _
      have HOa := Lib.hid (show OwnE w6.heap.size 27 (.slice (some ⟨w6.heap.size, 0, none⟩) 0 0) [] (w6.alloc (.cells #[] 27)) from World.ownsRow_lit (base := w6.heap.size) (e := 27) (size := 16) w6 #[] 0 (Nat.le_refl _) (by unfold maxLen; omega) rfl)
      have HCa := Lib.hid (World.ownsRow.cells (HO5.out.below hba) (g := g) rfl)
      go_wp2_with (at_builtin; refine wpList_append_elems rfl (.tmp 33) (.tmp 34) 24 27 rfl w6.heap.size _ rfl Tryd.underlying24 Tryd.infoE16 _ [] L LE.out ⟨g, 0, none⟩ L.length c1 rfl rfl HOa.out rfl HCa.out (by simp; omega) hba.size ?_)
      intro v7 w7 ho7 hb7
      have ho7' := ho7.out
      have hb67 : Below w6.heap.size w6 w7 := hba.trans hb7.out
      obtain ⟨gm, cm, rfl, hgm1, hgm2⟩ := ho7'.formB hpos
      have HM7 := Lib.hid ho7'
      have HX7 := Lib.hid (HX5.out.below hb67)
      have HO7 := Lib.hid (HO5.out.below hb67)
      have HK7 := Lib.hid (HK5.out.below hb67)
      have HB7 := Lib.hid (HB5.out.trans (hb67.mono HB5.out.size))
      have HGM := Lib.hid (show g ≠ gm by have := (World.ownsRow.lt HO5.out g rfl).2; omega)
      have HGX := Lib.hid (show gx ≠ gm by have := HX5.out.lt; omega)
      have HBW := Lib.hid hb67
      have HGW6 := Lib.hid (show w6.heap.size ≤ gm from hgm1)
      have HGW := Lib.hid (show w.heap.size ≤ gm by have := HB5.out.size; omega)
      clear ho7 ho7' hb7 hb67 hba HOa HCa HO5 HX5 HB5 hgm1
      obtain ⟨q, hq, hqe⟩ := idx_some a hpos (by omega)
      have hq2 : (q : Int) < (L.length : Int) := by omega
      have hc := HM7.out.byte rfl LE.out hq (j := 3) (by decide)
      have hf := HM7.out.frozenByte rfl (q * 16 + 3)
      obtain ⟨hy1, hy2⟩ := LE.out.getD hq
      have hb2 : (L.getD q []).getD 3 0 < 256 := getD_lt hy2 (by decide) 3
      have HMS := Lib.hid (fun w (hm : OwnE w6.heap.size 27 (.slice (some ⟨gm, 0, none⟩) L.length cm) L w) => show OwnE w6.heap.size 27 (.slice (some ⟨gm, 0, none⟩) L.length cm) (turnN L q cn) (w.setCell ⟨gm, q * 16 + 3, none⟩ (.int .u8 (((L.getD q []).getD 3 0 ^^^ cn : Nat) : Int))) from hm.setByte rfl LE.out hq (by decide) (xor_lt_256 hb2 hcb))
      have HME := Lib.hid (show Elems (turnN L q cn) from LE.out.setByte hq (xor_lt_256 hb2 hcb))
      have HMZ := Shut.mk (show cn = 0 → turnN L q cn = L from fun h => by rw [h]; exact turnN_zero LE.out hq)
      have hxor := bits_xor_u8 hb2 hcb
      obtain ⟨b, hbe⟩ : ∃ b, (L.getD q []).getD 3 0 = b := ⟨_, rfl⟩
      rw [hbe] at hc hb2 HMS hxor
      clear hy1 hy2 hbe
      go_upto_region 9 with (fail)
      refine wp_region_class_tail (fun w' => Below w7.heap.size w7 w') 14 (by kernel_rfl) (by kernel_rfl) (Below.refl _ _).drew ?_
      simp only [List.take_succ_cons, List.take_zero, List.drop_succ_cons, List.drop_zero]
      repeat (first
        | (go_big_quiet_want; refine quiet_load_cell 5 _ rfl ⟨gm, q * 16 + 3, none⟩ (.int .u8 (b : Int)) rfl (fun w' h => (h.cell (p := ⟨gm, q * 16 + 3, none⟩) hgm2).trans hc) Tryd.isAgg5 ?_; go_big_quiet_on; simp only [Act.put, List.setIfInBounds_toArray, List.set_cons_zero, List.set_cons_succ])
        | go_big_quiet_step ((intro hs'; rfl)))
      refine wpQuiet_nil ?_
      intro w8 hs8
      have HO8 := Lib.hid (HO7.out.below hs8)
      have HX8 := Lib.hid (HX7.out.below hs8)
      have HM8 := Lib.hid (HMS.out _ (HM7.out.below hs8))
      have HK8 := Lib.hid (HK7.out.below hs8)
      have HB8 := Lib.hid (HB7.out.trans (hs8.mono HB7.out.size))
      have hc8 := (hs8.cell (p := ⟨gm, q * 16 + 3, none⟩) hgm2).trans hc
      have hf8 := (HM7.out.below hs8).frozenByte rfl (q * 16 + 3)
      have hbs : But gm w8 (w8.setCell ⟨gm, q * 16 + 3, none⟩ (.int .u8 ((b ^^^ cn : Nat) : Int))) := (But.refl _ _).setCell _ _
      have HO9' := Lib.hid (HO8.out.but hbs (fun k hk e => HGM.out (by simp [Value.ownBlock] at hk; omega)))
      have HX9' := Lib.hid (HX8.out.but hbs HGX.out)
      have HB9' := Lib.hid (show Below w.heap.size w _ from But.toBelow HB8.out hbs HGW.out HB8.out.size)
      have HK9' := Lib.hid (show KAt (w8.setCell ⟨gm, q * 16 + 3, none⟩ (.int .u8 ((b ^^^ cn : Nat) : Int))) from HK5.out.below (But.toBelow (HBW.out.trans (hs8.mono HBW.out.size)) hbs HGW6.out (HBW.out.trans (hs8.mono HBW.out.size)).size))
      have HML := Shut.mk (turnN_len L q cn)
      obtain ⟨M, hM⟩ : ∃ M, turnN L q cn = M := ⟨_, rfl⟩
      rw [hM] at HM8 HME HMZ HML
      clear hM
      clear hs8 hc hf hgm2 HO7 HX7 HM7 HK7 HB7 HMS HO8 HX8 HK8 HB8 hbs HBW HK5
      go_wp2_with fail
      have hMN := HML.out.trans HN.out
      have cr := dev_root M h (some ⟨gm, 0, none⟩) cm _ HME.out (HM8.out.at HME.out) (by rw [HML.out]; exact HG.out) hMN h8 HK9'.out
      rw [HML.out] at cr
      refine cr.mono ?_
      rintro e w9 ⟨rfl, hb9⟩
      obtain ⟨hy1, hy2⟩ := atN_ok HME.out h 0 (by rw [Nat.zero_mul, hMN]; exact Nat.two_pow_pos h)
      obtain ⟨y, hy⟩ : ∃ y, atN M h 0 = y := ⟨_, rfl⟩
      rw [hy] at hy1 hy2 ⊢
      have HYE := Shut.mk hy
      have HY1 := Lib.hid hy1
      have HY2 := Lib.hid hy2
      have HIY := Lib.hid (show (Tryd.prog.info? 27).map (·.size) = some y.length by rw [hy1]; exact Tryd.infoE)
      have HLY := Lib.hid (show (List.replicate 16 0).length = y.length by rw [hy1]; rfl)
      have HO10 := Lib.hid (HO9'.out.below hb9)
      have HX10 := Lib.hid (HX9'.out.below hb9)
      have HM10 := Lib.hid (HM8.out.below hb9)
      have HK10 := Lib.hid (HK9'.out.below hb9)
      have HB10 := Lib.hid (HB9'.out.trans (hb9.mono HB9'.out.size))
      clear cr hb9 hy hy1 hy2 HO9' HX9' HM8 HK9' HB9' hc8 hf8 hxor hqe
      have HX := Lib.hid (show Blk w9.heap.size 27 .u8 (List.replicate 16 0) (w9.alloc (.cells (nums .u8 (List.replicate 16 0)).toArray 27)) from heap_alloc_new w9 _)
      go_wp2_with (refine wpList_store_nums rfl 27 _ _ rfl rfl w9.heap.size .u8 _ y 27 rfl rfl HX.out HIY.out HLY.out ?_)
      intro w11 hc hb
      have HY11 := Lib.hid (show Blk w9.heap.size 27 .u8 y w11 from hc.out)
      have hb5 : Below w9.heap.size w9 w11 := But.toBelow ((Below.refl _ w9).alloc (Nat.le_refl _) _) hb.out (Nat.le_refl _) (by simp)
      have HO11 := Lib.hid (HO10.out.below hb5)
      have HX11 := Lib.hid (HX10.out.below hb5)
      have HM11 := Lib.hid (HM10.out.below hb5)
      have HK11 := Lib.hid (HK10.out.below hb5)
      have HB11 := Lib.hid (HB10.out.trans (hb5.mono HB10.out.size))
      obtain ⟨gy, hgy⟩ : ∃ g, g = w9.heap.size := ⟨_, rfl⟩
      rw [← hgy] at HY11 ⊢
      clear hc hb hb5 HX HO10 HX10 HM10 HK10 HB10 hgy
      go_wp2_with fail
      refine (height_any L.length w11 (by omega)).mono ?_
      rintro e w9 ⟨rfl, rfl⟩
      rw [HH.out]
      have HO9 := HO11
      have HX9 := HX11
      have HY9 := HY11
      have HM9 := HM11
      have HK9 := HK11
      have HB9 := HB11
      clear HO11 HX11 HY11 HM11 HK11 HB11
      have HA1 := Lib.hid (fun w hE => ref_at L (some ⟨g, 0, none⟩) c1 LE.out (by omega) h 0 w hE (by rw [Nat.zero_add, Nat.one_mul, HN.out]; exact Nat.le_refl _) h8)
      rw [HXE.out] at HA1
      have HA2 := Lib.hid (fun w hE => ref_at M (some ⟨gm, 0, none⟩) cm HME.out (by rw [HML.out]; omega) h 0 w hE (by rw [Nat.zero_add, Nat.one_mul, hMN]; exact Nat.le_refl _) h8)
      rw [HYE.out, HML.out] at HA2
      clear hMN
      by_cases hc0 : cn = 0
      · have hcz : ((cn : Int) == 0) = true := by rw [hc0]; rfl
        obtain rfl : y = x := by rw [← HYE.out, HMZ.out hc0, HXE.out]
        have e1 := fun w => equal_elem y y HX1.out HX1.out HX2.out HX2.out w
        rw [beq_self_eq_true] at e1
        by_cases h1 : L.length = 1
        · have hl1 : ((L.length : Int) == 1) = true := by rw [h1]; rfl
          clear h1
          go_upto_region 14 with (fail)
          refine wp_region_class (fun w' => SS w9 w') (by kernel_rfl) (by kernel_rfl) (SS.start HK9.out) ?_
          repeat (first
            | go_big_quiet_skip
            | (go_big_quiet_want; refine quiet_load_nums 27 _ rfl gx .u8 y 27 _ rfl (fun w' h => HX9.out.below h.1) Tryd.underlying27 rfl HIX.out ?_; go_big_quiet_on; simp only [Act.put, List.setIfInBounds_toArray, List.set_cons_zero, List.set_cons_succ])
            | (go_big_quiet_want; refine quiet_load_nums 27 _ rfl gy .u8 y 27 _ rfl (fun w' h => HY9.out.below h.1) Tryd.underlying27 rfl HIY.out ?_; go_big_quiet_on; simp only [Act.put, List.setIfInBounds_toArray, List.set_cons_zero, List.set_cons_succ])
            | go_big_quiet_step ((intro hs'; rfl)))
          refine wpQuiet_nil ?_
          intro w10 hs10
          have HB10 := Lib.hid (HB9.out.trans (hs10.1.mono HB9.out.size))
          clear hs10
          go_wp2_with fail
          go_ret
          exact ⟨rfl, HB10.out⟩
        · have hl1 : ((L.length : Int) == 1) = false := by rw [beq_eq_false_iff_ne]; omega
          obtain ⟨h', hh⟩ : ∃ h', h = h' + 1 := by
            cases h with
            | zero => exact absurd HN.out (by omega)
            | succ h' => exact ⟨h', rfl⟩
          have hsub : (h : Int) - 1 = (h' : Int) := by omega
          have hp1 : (0 + 1) * 2 ^ h' ≤ L.length := by rw [HN.out, hh, Nat.pow_succ]; omega
          have hp2 : (1 + 1) * 2 ^ h' ≤ L.length := by rw [HN.out, hh, Nat.pow_succ]; omega
          obtain ⟨u1, u2⟩ := atN_ok LE.out h' 0 (by have := Nat.two_pow_pos h'; omega)
          obtain ⟨v1, v2⟩ := atN_ok LE.out h' 1 (by have := Nat.two_pow_pos h'; omega)
          have hxu : upN (atN L h' 0) (atN L h' 1) (h : Int) 0 = y := by rw [← HXE.out, hh]; rfl
          have HA3 := Lib.hid (fun w hE => ref_at L (some ⟨g, 0, none⟩) c1 LE.out (by omega) h' 0 w hE hp1 (by omega))
          have HA4 := Lib.hid (fun w hE => ref_at L (some ⟨g, 0, none⟩) c1 LE.out (by omega) h' 1 w hE hp2 (by omega))
          obtain ⟨X0, hX0⟩ : ∃ X, atN L h' 0 = X := ⟨_, rfl⟩
          obtain ⟨X1, hX1⟩ : ∃ X, atN L h' 1 = X := ⟨_, rfl⟩
          rw [hX0] at u1 u2 hxu HA3
          rw [hX1] at v1 v2 hxu HA4
          have HU := Lib.hid (fun w hk => dev_up X0 X1 (h : Int) 0 w u1 u2 v1 v2 (by omega) (by omega) (by omega) (by omega) hk)
          rw [hxu] at HU
          clear u1 u2 v1 v2 hxu hX0 hX1 hh hp1 hp2
          go_upto_region 14 with (fail)
          refine wp_region_class (fun w' => SS w9 w') (by kernel_rfl) (by kernel_rfl) (SS.start HK9.out) ?_
          repeat (first
            | go_big_quiet_skip
            | (go_big_quiet_want; refine quiet_load_nums 27 _ rfl gx .u8 y 27 _ rfl (fun w' h => HX9.out.below h.1) Tryd.underlying27 rfl HIX.out ?_; go_big_quiet_on; simp only [Act.put, List.setIfInBounds_toArray, List.set_cons_zero, List.set_cons_succ])
            | (go_big_quiet_want; refine quiet_load_nums 27 _ rfl gy .u8 y 27 _ rfl (fun w' h => HY9.out.below h.1) Tryd.underlying27 rfl HIY.out ?_; go_big_quiet_on; simp only [Act.put, List.setIfInBounds_toArray, List.set_cons_zero, List.set_cons_succ])
            | go_big_quiet_step ((intro hs'; rfl)))
          go_big_quiet_step ((intro hs'; exact (HA3.out _ ((HO9.out.at LE.out).below hs'.1)).mono fun e w' h => ⟨h.1, hs'.next h.2⟩))
          repeat (first
            | go_big_quiet_skip
            | (go_big_quiet_want; refine quiet_load_nums 27 _ rfl gx .u8 y 27 _ rfl (fun w' h => HX9.out.below h.1) Tryd.underlying27 rfl HIX.out ?_; go_big_quiet_on; simp only [Act.put, List.setIfInBounds_toArray, List.set_cons_zero, List.set_cons_succ])
            | (go_big_quiet_want; refine quiet_load_nums 27 _ rfl gy .u8 y 27 _ rfl (fun w' h => HY9.out.below h.1) Tryd.underlying27 rfl HIY.out ?_; go_big_quiet_on; simp only [Act.put, List.setIfInBounds_toArray, List.set_cons_zero, List.set_cons_succ])
            | go_big_quiet_step ((intro hs'; rfl)))
          go_big_quiet_step ((intro hs'; exact (HA4.out _ ((HO9.out.at LE.out).below hs'.1)).mono fun e w' h => ⟨h.1, hs'.next h.2⟩))
          repeat (first
            | go_big_quiet_skip
            | (go_big_quiet_want; refine quiet_load_nums 27 _ rfl gx .u8 y 27 _ rfl (fun w' h => HX9.out.below h.1) Tryd.underlying27 rfl HIX.out ?_; go_big_quiet_on; simp only [Act.put, List.setIfInBounds_toArray, List.set_cons_zero, List.set_cons_succ])
            | (go_big_quiet_want; refine quiet_load_nums 27 _ rfl gy .u8 y 27 _ rfl (fun w' h => HY9.out.below h.1) Tryd.underlying27 rfl HIY.out ?_; go_big_quiet_on; simp only [Act.put, List.setIfInBounds_toArray, List.set_cons_zero, List.set_cons_succ])
            | go_big_quiet_step ((intro hs'; rfl)))
          go_big_quiet_step ((intro hs'; exact (HU.out _ hs'.2).mono fun e w' h => ⟨h.1, hs'.next h.2⟩))
          repeat (first
            | go_big_quiet_skip
            | (go_big_quiet_want; refine quiet_load_nums 27 _ rfl gx .u8 y 27 _ rfl (fun w' h => HX9.out.below h.1) Tryd.underlying27 rfl HIX.out ?_; go_big_quiet_on; simp only [Act.put, List.setIfInBounds_toArray, List.set_cons_zero, List.set_cons_succ])
            | (go_big_quiet_want; refine quiet_load_nums 27 _ rfl gy .u8 y 27 _ rfl (fun w' h => HY9.out.below h.1) Tryd.underlying27 rfl HIY.out ?_; go_big_quiet_on; simp only [Act.put, List.setIfInBounds_toArray, List.set_cons_zero, List.set_cons_succ])
            | go_big_quiet_step ((intro hs'; rfl)))
          refine wpQuiet_nil ?_
          intro w10 hs10
          have HB10 := Lib.hid (HB9.out.trans (hs10.1.mono HB9.out.size))
          clear hs10
          go_wp2_with fail
          go_ret
          exact ⟨rfl, HB10.out⟩
      · have hcz : ((cn : Int) == 0) = false := by rw [beq_eq_false_iff_ne]; omega
        have e1 := fun w => equal_elem x y HX1.out HY1.out HX2.out HY2.out w
        have e3 := fun w => equal_elem x x HX1.out HX1.out HX2.out HX2.out w
        rw [beq_self_eq_true] at e3
        obtain ⟨p, hpe⟩ : ∃ p, (x == y) = p := ⟨_, rfl⟩
        rw [hpe] at e1
        clear hpe
        have hpp : (p == p) = true := by cases p <;> rfl
        by_cases h1 : L.length = 1
        · have hl1 : ((L.length : Int) == 1) = true := by rw [h1]; rfl
          clear h1
          go_upto_region 14 with (fail)
          refine wp_region_class (fun w' => SS w9 w') (by kernel_rfl) (by kernel_rfl) (SS.start HK9.out) ?_
          repeat (first
            | go_big_quiet_skip
            | (go_big_quiet_want; refine quiet_load_nums 27 _ rfl gx .u8 x 27 _ rfl (fun w' h => HX9.out.below h.1) Tryd.underlying27 rfl HIX.out ?_; go_big_quiet_on; simp only [Act.put, List.setIfInBounds_toArray, List.set_cons_zero, List.set_cons_succ])
            | (go_big_quiet_want; refine quiet_load_nums 27 _ rfl gy .u8 y 27 _ rfl (fun w' h => HY9.out.below h.1) Tryd.underlying27 rfl HIY.out ?_; go_big_quiet_on; simp only [Act.put, List.setIfInBounds_toArray, List.set_cons_zero, List.set_cons_succ])
            | go_big_quiet_step ((intro hs'; rfl)))
          go_big_quiet_step ((intro hs'; exact (HA1.out _ ((HO9.out.at LE.out).below hs'.1)).mono fun e w' h => ⟨h.1, hs'.next h.2⟩))
          repeat (first
            | go_big_quiet_skip
            | (go_big_quiet_want; refine quiet_load_nums 27 _ rfl gx .u8 x 27 _ rfl (fun w' h => HX9.out.below h.1) Tryd.underlying27 rfl HIX.out ?_; go_big_quiet_on; simp only [Act.put, List.setIfInBounds_toArray, List.set_cons_zero, List.set_cons_succ])
            | (go_big_quiet_want; refine quiet_load_nums 27 _ rfl gy .u8 y 27 _ rfl (fun w' h => HY9.out.below h.1) Tryd.underlying27 rfl HIY.out ?_; go_big_quiet_on; simp only [Act.put, List.setIfInBounds_toArray, List.set_cons_zero, List.set_cons_succ])
            | go_big_quiet_step ((intro hs'; rfl)))
          go_big_quiet_step ((intro hs'; exact (HA2.out _ ((HM9.out.at HME.out).below hs'.1)).mono fun e w' h => ⟨h.1, hs'.next h.2⟩))
          repeat (first
            | go_big_quiet_skip
            | (go_big_quiet_want; refine quiet_load_nums 27 _ rfl gx .u8 x 27 _ rfl (fun w' h => HX9.out.below h.1) Tryd.underlying27 rfl HIX.out ?_; go_big_quiet_on; simp only [Act.put, List.setIfInBounds_toArray, List.set_cons_zero, List.set_cons_succ])
            | (go_big_quiet_want; refine quiet_load_nums 27 _ rfl gy .u8 y 27 _ rfl (fun w' h => HY9.out.below h.1) Tryd.underlying27 rfl HIY.out ?_; go_big_quiet_on; simp only [Act.put, List.setIfInBounds_toArray, List.set_cons_zero, List.set_cons_succ])
            | go_big_quiet_step ((intro hs'; rfl)))
          refine wpQuiet_nil ?_
          intro w10 hs10
          have HB10 := Lib.hid (HB9.out.trans (hs10.1.mono HB9.out.size))
          clear hs10
          go_wp2_with fail
          go_ret
          exact ⟨rfl, HB10.out⟩
        · have hl1 : ((L.length : Int) == 1) = false := by rw [beq_eq_false_iff_ne]; omega
          obtain ⟨h', hh⟩ : ∃ h', h = h' + 1 := by
            cases h with
            | zero => exact absurd HN.out (by omega)
            | succ h' => exact ⟨h', rfl⟩
          have hsub : (h : Int) - 1 = (h' : Int) := by omega
          have hp1 : (0 + 1) * 2 ^ h' ≤ L.length := by rw [HN.out, hh, Nat.pow_succ]; omega
          have hp2 : (1 + 1) * 2 ^ h' ≤ L.length := by rw [HN.out, hh, Nat.pow_succ]; omega
          obtain ⟨u1, u2⟩ := atN_ok LE.out h' 0 (by have := Nat.two_pow_pos h'; omega)
          obtain ⟨v1, v2⟩ := atN_ok LE.out h' 1 (by have := Nat.two_pow_pos h'; omega)
          have hxu : upN (atN L h' 0) (atN L h' 1) (h : Int) 0 = x := by rw [← HXE.out, hh]; rfl
          have HA3 := Lib.hid (fun w hE => ref_at L (some ⟨g, 0, none⟩) c1 LE.out (by omega) h' 0 w hE hp1 (by omega))
          have HA4 := Lib.hid (fun w hE => ref_at L (some ⟨g, 0, none⟩) c1 LE.out (by omega) h' 1 w hE hp2 (by omega))
          obtain ⟨X0, hX0⟩ : ∃ X, atN L h' 0 = X := ⟨_, rfl⟩
          obtain ⟨X1, hX1⟩ : ∃ X, atN L h' 1 = X := ⟨_, rfl⟩
          rw [hX0] at u1 u2 hxu HA3
          rw [hX1] at v1 v2 hxu HA4
          have HU := Lib.hid (fun w hk => dev_up X0 X1 (h : Int) 0 w u1 u2 v1 v2 (by omega) (by omega) (by omega) (by omega) hk)
          rw [hxu] at HU
          clear u1 u2 v1 v2 hxu hX0 hX1 hh hp1 hp2
          go_upto_region 14 with (fail)
          refine wp_region_class (fun w' => SS w9 w') (by kernel_rfl) (by kernel_rfl) (SS.start HK9.out) ?_
          repeat (first
            | go_big_quiet_skip
            | (go_big_quiet_want; refine quiet_load_nums 27 _ rfl gx .u8 x 27 _ rfl (fun w' h => HX9.out.below h.1) Tryd.underlying27 rfl HIX.out ?_; go_big_quiet_on; simp only [Act.put, List.setIfInBounds_toArray, List.set_cons_zero, List.set_cons_succ])
            | (go_big_quiet_want; refine quiet_load_nums 27 _ rfl gy .u8 y 27 _ rfl (fun w' h => HY9.out.below h.1) Tryd.underlying27 rfl HIY.out ?_; go_big_quiet_on; simp only [Act.put, List.setIfInBounds_toArray, List.set_cons_zero, List.set_cons_succ])
            | go_big_quiet_step ((intro hs'; rfl)))
          go_big_quiet_step ((intro hs'; exact (HA1.out _ ((HO9.out.at LE.out).below hs'.1)).mono fun e w' h => ⟨h.1, hs'.next h.2⟩))
          repeat (first
            | go_big_quiet_skip
            | (go_big_quiet_want; refine quiet_load_nums 27 _ rfl gx .u8 x 27 _ rfl (fun w' h => HX9.out.below h.1) Tryd.underlying27 rfl HIX.out ?_; go_big_quiet_on; simp only [Act.put, List.setIfInBounds_toArray, List.set_cons_zero, List.set_cons_succ])
            | (go_big_quiet_want; refine quiet_load_nums 27 _ rfl gy .u8 y 27 _ rfl (fun w' h => HY9.out.below h.1) Tryd.underlying27 rfl HIY.out ?_; go_big_quiet_on; simp only [Act.put, List.setIfInBounds_toArray, List.set_cons_zero, List.set_cons_succ])
            | go_big_quiet_step ((intro hs'; rfl)))
          go_big_quiet_step ((intro hs'; exact (HA2.out _ ((HM9.out.at HME.out).below hs'.1)).mono fun e w' h => ⟨h.1, hs'.next h.2⟩))
          repeat (first
            | go_big_quiet_skip
            | (go_big_quiet_want; refine quiet_load_nums 27 _ rfl gx .u8 x 27 _ rfl (fun w' h => HX9.out.below h.1) Tryd.underlying27 rfl HIX.out ?_; go_big_quiet_on; simp only [Act.put, List.setIfInBounds_toArray, List.set_cons_zero, List.set_cons_succ])
            | (go_big_quiet_want; refine quiet_load_nums 27 _ rfl gy .u8 y 27 _ rfl (fun w' h => HY9.out.below h.1) Tryd.underlying27 rfl HIY.out ?_; go_big_quiet_on; simp only [Act.put, List.setIfInBounds_toArray, List.set_cons_zero, List.set_cons_succ])
            | go_big_quiet_step ((intro hs'; rfl)))
          go_big_quiet_step ((intro hs'; exact (HA3.out _ ((HO9.out.at LE.out).below hs'.1)).mono fun e w' h => ⟨h.1, hs'.next h.2⟩))
          repeat (first
            | go_big_quiet_skip
            | (go_big_quiet_want; refine quiet_load_nums 27 _ rfl gx .u8 x 27 _ rfl (fun w' h => HX9.out.below h.1) Tryd.underlying27 rfl HIX.out ?_; go_big_quiet_on; simp only [Act.put, List.setIfInBounds_toArray, List.set_cons_zero, List.set_cons_succ])
            | (go_big_quiet_want; refine quiet_load_nums 27 _ rfl gy .u8 y 27 _ rfl (fun w' h => HY9.out.below h.1) Tryd.underlying27 rfl HIY.out ?_; go_big_quiet_on; simp only [Act.put, List.setIfInBounds_toArray, List.set_cons_zero, List.set_cons_succ])
            | go_big_quiet_step ((intro hs'; rfl)))
          go_big_quiet_step ((intro hs'; exact (HA4.out _ ((HO9.out.at LE.out).below hs'.1)).mono fun e w' h => ⟨h.1, hs'.next h.2⟩))
          repeat (first
            | go_big_quiet_skip
            | (go_big_quiet_want; refine quiet_load_nums 27 _ rfl gx .u8 x 27 _ rfl (fun w' h => HX9.out.below h.1) Tryd.underlying27 rfl HIX.out ?_; go_big_quiet_on; simp only [Act.put, List.setIfInBounds_toArray, List.set_cons_zero, List.set_cons_succ])
            | (go_big_quiet_want; refine quiet_load_nums 27 _ rfl gy .u8 y 27 _ rfl (fun w' h => HY9.out.below h.1) Tryd.underlying27 rfl HIY.out ?_; go_big_quiet_on; simp only [Act.put, List.setIfInBounds_toArray, List.set_cons_zero, List.set_cons_succ])
            | go_big_quiet_step ((intro hs'; rfl)))
          go_big_quiet_step ((intro hs'; exact (HU.out _ hs'.2).mono fun e w' h => ⟨h.1, hs'.next h.2⟩))
          repeat (first
            | go_big_quiet_skip
            | (go_big_quiet_want; refine quiet_load_nums 27 _ rfl gx .u8 x 27 _ rfl (fun w' h => HX9.out.below h.1) Tryd.underlying27 rfl HIX.out ?_; go_big_quiet_on; simp only [Act.put, List.setIfInBounds_toArray, List.set_cons_zero, List.set_cons_succ])
            | (go_big_quiet_want; refine quiet_load_nums 27 _ rfl gy .u8 y 27 _ rfl (fun w' h => HY9.out.below h.1) Tryd.underlying27 rfl HIY.out ?_; go_big_quiet_on; simp only [Act.put, List.setIfInBounds_toArray, List.set_cons_zero, List.set_cons_succ])
            | go_big_quiet_step ((intro hs'; rfl)))
          refine wpQuiet_nil ?_
          intro w10 hs10
          have HB10 := Lib.hid (HB9.out.trans (hs10.1.mono HB9.out.size))
          clear hs10
          go_wp2_with fail
          go_ret
          exact ⟨rfl, HB10.out⟩
end Go.Proofs.YtgmckanjgnpbhaaDoor.treeHalves
