/-
  The walk of the law TreeKeeps.
-/
import Derived.Test.YtgmckanjgnpbhaaDoorBytes5
namespace Go.Proofs.YtgmckanjgnpbhaaDoor.treeKeeps
open Go.RowKit Go.BigFrame

set_option maxHeartbeats 1000000 in
set_option maxRecDepth 100000 in
theorem walk (w : World) (hk : KAt w) (ao : Option Addr) (L : List (List Nat)) (cap : Nat) (hE : EAt ao L w) (hL : Elems L) (hn : L.length ≤ 8796093021952) (_hnil : ao = none → cap = 0) (a : Int) (_wa : (Lit.int .i64 a).wf = true) :
    Calls Tryd.prog 6 #[.slice ao L.length cap, .int .i64 a] w fun e w' => e = .returned (.bool true) ∧ Below w.heap.size w w' := by
  have HK := Lib.hid hk
  have HE := Lib.hid hE
  have LE := Lib.hid hL
  obtain ⟨x, ek, hx1, hx2, hroot⟩ := root_some L hL (by omega)
  obtain ⟨R, fk, hR, hR8, hpath⟩ := path_some L a hL (by omega)
  have HRT := Lib.hid hroot
  have HPT := Lib.hid hpath
  have LR := Lib.hid hR
  have hee : (ek == ek) = true := beq_self_eq_true _
  have e2 := fun w => equal_elem x x hx1 hx1 hx2 hx2 w
  rw [beq_self_eq_true] at e2
  have HIX := Lib.hid (show (Tryd.prog.info? 27).map (·.size) = some x.length by rw [hx1]; exact Tryd.infoE)
  have HLX := Lib.hid (show (List.replicate 16 0).length = x.length by rw [hx1]; rfl)
  clear hk hE hL hroot hpath hx1 hx2 hR
  go_enter Tryd.func6, Tryd.ntmps6
  go_wp2_with fail
  refine (alive5_any w HK.out).mono ?_
  rintro e w2 ⟨rfl, hb2⟩
  have HB2 := Lib.hid hb2
  have HK2 := Lib.hid (HK.out.below hb2)
  clear hb2 HK
  by_cases hlong : 32 < L.length
  · have hl2 : (32 : Int) < L.length := by omega
    go_wp2_with fail
    go_ret
    exact ⟨rfl, HB2.out⟩
  · have hl2 : ¬ (32 : Int) < L.length := by omega
    go_wp2_with fail
    refine (elems_any L ao cap w2 LE.out (HE.out.below HB2.out) hn).mono ?_
    rintro e w3 ⟨⟨v, rfl, ho⟩, hb3⟩
    obtain ⟨a1, c1, rfl⟩ := ho.form
    have HO3 := Lib.hid ho
    have HB3 := Lib.hid (HB2.out.trans (hb3.mono HB2.out.size))
    have HK3 := Lib.hid (HK2.out.below hb3)
    clear ho hb3 HB2 HK2
    go_wp2_with fail
    refine (HRT.out a1 c1 w3 (HO3.out.at LE.out) HK3.out).mono ?_
    rintro e w4 ⟨rfl, hb4⟩
    have HO4 := Lib.hid (HO3.out.below hb4)
    have HB4 := Lib.hid (HB3.out.trans (hb4.mono HB3.out.size))
    have HK4 := Lib.hid (HK3.out.below hb4)
    clear hb4 HO3 HB3 HK3
    have HX := Lib.hid (show Blk w4.heap.size 27 .u8 (List.replicate 16 0) (w4.alloc (.cells (nums .u8 (List.replicate 16 0)).toArray 27)) from heap_alloc_new w4 _)
    go_wp2_with (refine wpList_store_nums rfl 27 _ _ rfl rfl w4.heap.size .u8 _ x 27 rfl rfl HX.out HIX.out HLX.out ?_)
    intro w5 hc hb
    have HX5 := Lib.hid (show Blk w4.heap.size 27 .u8 x w5 from hc.out)
    have hb5 : Below w4.heap.size w4 w5 := But.toBelow ((Below.refl _ w4).alloc (Nat.le_refl _) _) hb.out (Nat.le_refl _) (by simp)
    have HO5 := Lib.hid (HO4.out.below hb5)
    have HB5 := Lib.hid (HB4.out.trans (hb5.mono HB4.out.size))
    have HK5 := Lib.hid (HK4.out.below hb5)
    obtain ⟨gx, hgx⟩ : ∃ g, g = w4.heap.size := ⟨_, rfl⟩
    rw [← hgx] at HX5 ⊢
    clear hc hb hb5 HX HO4 HB4 HK4 hgx
    go_wp2_with fail
    refine (HPT.out a1 c1 w5 (HO5.out.at LE.out) HK5.out).mono ?_
    rintro e w6 ⟨⟨v6, rfl, ho6⟩, hb6⟩
    obtain ⟨a6, c6, rfl⟩ := ho6.form
    have HP6 := Lib.hid ho6
    have HB6 := Lib.hid hb6
    clear ho6 hb6
    go_wp2_with fail
    go_loopw [33] (fun n wq => ∃ (k : Nat) (T : List (List Nat)), k ≤ R.length ∧ n = .int .i64 k ∧ T.length = R.length ∧ Elems T ∧ OwnE w5.heap.size 27 (.slice a6 R.length c6) T wq ∧ Below w5.heap.size w5 wq) (fun n _ => R.length - (intOf n).toNat)
    case atStart => exact ⟨0, R, by omega, rfl, rfl, LR.out, HP6.out, HB6.out⟩
    case round =>
      clear HP6 HB6
      obtain ⟨k, T, hk, rfl, htl, ht, hot, hbt⟩ := hrel
      by_cases hlk : k < R.length
      · obtain ⟨g, c7, hv, hg5, hg⟩ := hot.formB (by omega)
        rw [htl] at hv
        obtain ⟨rfl, rfl⟩ : a6 = some ⟨g, 0, none⟩ ∧ c6 = c7 := by injection hv with h1 _ h3; exact ⟨h1, h3⟩
        have hlk2 : (k : Int) < (R.length : Int) := by omega
        have hc := hot.byte htl.symm ht hlk (j := 0) (by decide)
        have hf := hot.frozenByte htl.symm (k * 16 + 0)
        obtain ⟨hy1, hy2⟩ := ht.getD (i := k) (by omega)
        have hb2 : (T.getD k []).getD 0 0 < 256 := getD_lt hy2 (by decide) 0
        obtain ⟨b, hbe⟩ : ∃ b, (T.getD k []).getD 0 0 = b := ⟨_, rfl⟩
        rw [hbe] at hc hb2
        rw [Nat.add_zero] at hc hf
        have HOT := Lib.hid hot
        have HBT := Lib.hid hbt
        have HT := Lib.hid ht
        have HTL := Lib.hid htl
        have HG5 := Lib.hid hg5
        clear hot hbt ht htl hg5 hv hbe hy1 hy2
        go_upto_region 11 with (fail)
        refine wp_region_class_tail (fun w' => Below wr.heap.size wr w') 8 (by kernel_rfl) (by kernel_rfl) (Below.refl _ _).drew ?_
        simp only [List.take_succ_cons, List.take_zero, List.drop_succ_cons, List.drop_zero]
        repeat (first
          | (go_big_quiet_want; refine quiet_load_cell 5 _ rfl ⟨g, k * 16, none⟩ (.int .u8 (b : Int)) rfl (fun w' h => (h.cell (p := ⟨g, k * 16, none⟩) hg).trans hc) Tryd.isAgg5 ?_; go_big_quiet_on; simp only [Act.put, List.setIfInBounds_toArray, List.set_cons_zero, List.set_cons_succ])
          | go_big_quiet_step ((intro hs'; rfl)))
        refine wpQuiet_nil ?_
        intro w7 hs7
        have HO7 := Lib.hid (HOT.out.below hs7)
        have HB7 := Lib.hid (HBT.out.trans (hs7.mono HBT.out.size))
        have hz : (b + 1) % 256 < 256 := Nat.mod_lt _ (by decide)
        have hzi : ((b : Int) + 1) % 256 = (((b + 1) % 256 : Nat) : Int) := by omega
        rw [hzi]
        have hkT : k < R.length := hlk
        have HO8 := Lib.hid (show OwnE w5.heap.size 27 (.slice (some ⟨g, 0, none⟩) R.length c6) (T.set k ((T.getD k []).set 0 ((b + 1) % 256))) (w7.setCell ⟨g, k * 16, none⟩ (.int .u8 (((b + 1) % 256 : Nat) : Int))) from HO7.out.setByte HTL.out.symm HT.out hlk (j := 0) (by decide) hz)
        have HB8 := Lib.hid (show Below w5.heap.size w5 (w7.setCell ⟨g, k * 16, none⟩ (.int .u8 (((b + 1) % 256 : Nat) : Int))) from below_set HB7.out HG5.out _ _)
        have HT8 := Lib.hid (show Elems (T.set k ((T.getD k []).set 0 ((b + 1) % 256))) from HT.out.setByte (by rw [HTL.out]; exact hlk) hz)
        have hc7 := (hs7.cell (p := ⟨g, k * 16, none⟩) hg).trans hc
        have hf7 := HO7.out.frozenByte HTL.out.symm (k * 16)
        clear hs7 hc hf hzi HO7 HB7 HT HOT HBT
        generalize (b + 1) % 256 = z at *
        go_wp2_with fail
        exact ⟨⟨k + 1, _, by omega, by go_num, by rw [List.length_set]; exact HTL.out, HT8.out, HO8.out, HB8.out⟩, by simp [intOf]; omega⟩
      · obtain rfl : k = R.length := by omega
        have hnw : ¬ (R.length : Int) < (R.length : Int) := by omega
        have HOr := Lib.hid (HO5.out.below hbt)
        have HKr := Lib.hid (HK5.out.below hbt)
        have HXr := Lib.hid (HX5.out.below hbt)
        have HBr := Lib.hid (HB5.out.trans (hbt.mono HB5.out.size))
        clear hbt hot ht htl HO5 HK5 HX5 HB5
        go_wp2_with fail
        refine (HRT.out a1 c1 wr (HOr.out.at LE.out) HKr.out).mono ?_
        rintro e w8 ⟨rfl, hb8⟩
        have HO8 := Lib.hid (HOr.out.below hb8)
        have HX8 := Lib.hid (HXr.out.below hb8)
        have HB8 := Lib.hid (HBr.out.trans (hb8.mono HBr.out.size))
        clear hb8 HOr HKr HXr HBr
        have HX := Lib.hid (show Blk w8.heap.size 27 .u8 (List.replicate 16 0) (w8.alloc (.cells (nums .u8 (List.replicate 16 0)).toArray 27)) from heap_alloc_new w8 _)
        go_wp2_with (refine wpList_store_nums rfl 27 _ _ rfl rfl w8.heap.size .u8 _ x 27 rfl rfl HX.out HIX.out HLX.out ?_)
        intro w9 hc hb
        have HY9 := Lib.hid (show Blk w8.heap.size 27 .u8 x w9 from hc.out)
        have hb9 : Below w8.heap.size w8 w9 := But.toBelow ((Below.refl _ w8).alloc (Nat.le_refl _) _) hb.out (Nat.le_refl _) (by simp)
        have HO9 := Lib.hid (HO8.out.below hb9)
        have HX9 := Lib.hid (HX8.out.below hb9)
        have HB9 := Lib.hid (HB8.out.trans (hb9.mono HB8.out.size))
        obtain ⟨gy, hgy⟩ : ∃ g, g = w8.heap.size := ⟨_, rfl⟩
        rw [← hgy] at HY9 ⊢
        clear hc hb hb9 HX HO8 HX8 HB8 hgy
        go_upto_region 14 with (fail)
        refine wp_region_lit ?_
        iterate 12 (first | go_skip | go_guarded | go_step)
        refine wpList_load_want (by rfl) 27 _ rfl gx .u8 _ 27 _ rfl HX9.out Tryd.underlying27 rfl HIX.out ?_
        simp only [Act.put, List.setIfInBounds_toArray, List.set_cons_zero, List.set_cons_succ]
        refine wpList_load_want (by rfl) 27 _ rfl gy .u8 _ 27 _ rfl HY9.out Tryd.underlying27 rfl HIX.out ?_
        simp only [Act.put, List.setIfInBounds_toArray, List.set_cons_zero, List.set_cons_succ]
        go_wp2_with fail
        refine (elems_any L ao cap w9 LE.out (HE.out.below HB9.out) hn).mono ?_
        rintro e w10 ⟨⟨v10, rfl, ho10⟩, hb10⟩
        obtain ⟨a10, c10, rfl⟩ := ho10.form
        have HA10 := Lib.hid (ho10.at LE.out)
        have HO10 := Lib.hid (HO9.out.below hb10)
        have HB10 := Lib.hid (HB9.out.trans (hb10.mono HB9.out.size))
        clear hb10 ho10 HO9 HB9 HX9 HY9
        go_wp2_with fail
        refine (ref_same L L a1 a10 c1 c10 w10 LE.out LE.out (HO10.out.at LE.out) HA10.out (by omega)).mono ?_
        rintro e w11 ⟨rfl, hb11⟩
        rw [decide_eq_true (rfl : L = L)]
        have HB11 := Lib.hid (HB10.out.trans (hb11.mono HB10.out.size))
        clear hb11
        go_wp2_with fail
        go_ret
        exact ⟨rfl, HB11.out⟩
end Go.Proofs.YtgmckanjgnpbhaaDoor.treeKeeps
