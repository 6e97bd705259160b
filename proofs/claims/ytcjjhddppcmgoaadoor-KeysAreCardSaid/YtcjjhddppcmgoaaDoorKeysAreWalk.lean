/-
  The walk of the law KeysAre.
-/
import Derived.Test.YtcjjhddppcmgoaaDoorAlive6
import Derived.Test.YtcjjhddppcmgoaaDoorNode
namespace Go.Proofs.YtcjjhddppcmgoaaDoor.keysAre
open Go.RowKit Go.BigFrame

set_option maxHeartbeats 2000000 in
set_option maxRecDepth 100000 in
theorem walk (w : World) (hk : KAt w) (seed : List UInt8) (_hs : seed.length ≤ 140737488351232) (h : Int) (wh : (Lit.int .i64 h).wf = true) (i : Int) (wi : (Lit.int .i64 i).wf = true) (t : List UInt8) (_ht : t.length ≤ 140737488351232) :
    Calls Tryd.prog 3 #[.string ⟨seed.toArray⟩, .int .i64 h, .int .i64 i, .string ⟨t.toArray⟩] w fun e w' => e = .returned (.bool true) ∧ Below w.heap.size w w' := by
  have HK := Lib.hid hk
  have BI := Lib.hid (bounds_i64 wi)
  have BH := Lib.hid (bounds_i64 wh)
  clear hk wi wh
  go_enter Tryd.func3, Tryd.ntmps3
  go_wp2_with fail
  refine (alive6_any w HK.out).mono ?_
  rintro e w1 ⟨rfl, hb1⟩
  have HB1 := Lib.hid hb1
  have HK1 := Lib.hid (HK.out.below hb1)
  clear hb1 HK
  by_cases c1 : 512 < seed.length
  · have c1' : (512 : Int) < seed.length := by omega
    go_wp2_with fail
    go_ret
    exact ⟨rfl, HB1.out⟩
  have c1' : ¬ (512 : Int) < seed.length := by omega
  by_cases c2 : 512 < t.length
  · have c2' : (512 : Int) < t.length := by omega
    go_wp2_with fail
    go_ret
    exact ⟨rfl, HB1.out⟩
  have c2' : ¬ (512 : Int) < t.length := by omega
  have HT := Lib.hid (show t.length ≤ 1000000 by omega)
  by_cases c3 : 3 < h ∧ h < 9
  · obtain ⟨c3a, c3b⟩ := c3
    go_wp2_with fail
    go_ret
    exact ⟨rfl, HB1.out⟩
  have hzr : ∀ w, (Op.equalIn 10000 33 (.agg (nodeV (List.replicate 16 0) 0)) (.agg #[.int .u8 0, .int .u8 0, .int .u8 0, .int .u8 0, .int .u8 0, .int .u8 0, .int .u8 0, .int .u8 0, .int .u8 0, .int .u8 0, .int .u8 0, .int .u8 0, .int .u8 0, .int .u8 0, .int .u8 0, .int .u8 0, .int .i64 0])).run Tryd.prog w = .ok true w := fun w => by
    have h := equal_node (List.replicate 16 0) (List.replicate 16 0) 0 0 rfl rfl (by decide) (by decide) w
    rw [beq_self_eq_true, beq_self_eq_true] at h
    exact h
  have HNN := Lib.hid (fun w => dev_node_nil w)
  obtain ⟨Z, hZ⟩ : ∃ Z, nodeV (List.replicate 16 0) 0 = Z := ⟨_, rfl⟩
  rw [hZ] at hzr HNN
  clear hZ
  by_cases hbad : 64 < seed.length ∨ h < 1 ∨ 8 < h
  · have HWZ := Shut.mk (fun hb : h < 1 ∨ 8 < h => wideN_zero hb)
    rcases (by omega : ¬ 3 < h ∨ (3 < h ∧ ¬ h < 9)) with c4 | ⟨c4, c5⟩
    all_goals
      go_wp2_with fail
      refine (dev_new_not seed h w1 (by omega) hbad).mono ?_
      rintro e w2 ⟨rfl, hb2⟩
      have HB2 := Lib.hid (HB1.out.trans (hb2.mono HB1.out.size))
      clear hb2 HB1
      go_wp2_with fail
      refine (dev_sign_nil 0 [] w2).mono ?_
      rintro e w3 ⟨rfl, hb3⟩
      have HB3 := Lib.hid (HB2.out.trans (hb3.mono HB2.out.size))
      clear hb3 HB2
      go_wp2_with fail
      refine (dev_count_nil w3).mono ?_
      rintro e w4 ⟨rfl, hb4⟩
      have HB4 := Lib.hid (HB3.out.trans (hb4.mono HB3.out.size))
      clear hb4 HB3
      go_wp2_with fail
      refine (HNN.out w4).mono ?_
      rintro e w5 ⟨rfl, hb5⟩
      have HB5 := Lib.hid (HB4.out.trans (hb5.mono HB4.out.size))
      clear hb5 HB4
      by_cases c6 : 64 < seed.length
      · have c6' : (64 : Int) < seed.length := by omega
        go_wp2_with fail
        go_ret
        exact ⟨rfl, HB5.out⟩
      · have c6' : ¬ (64 : Int) < seed.length := by omega
        have hw := hbad.resolve_left c6
        go_wp2_with fail
        refine (ref_wide h w5).mono ?_
        rintro e w6 ⟨rfl, rfl⟩
        rw [HWZ.out hw]
        clear hw hbad
        go_wp2_with fail
        go_ret
        exact ⟨rfl, HB5.out⟩
  · have c4 : ¬ 3 < h := by omega
    obtain ⟨n, rfl⟩ : ∃ n : Nat, h = n := ⟨h.toNat, by omega⟩
    have hn1 : 1 ≤ n := by omega
    have hn8 : n ≤ 8 := by omega
    have hs64 : seed.length ≤ 64 := by omega
    have c6' : ¬ (64 : Int) < seed.length := by omega
    clear hbad c3
    go_wp2_with fail
    refine (dev_new seed n w1 hs64 hn1 hn8 HK1.out).mono ?_
    rintro e w2 ⟨⟨v, rfl, hv⟩, hb2⟩
    have KS2 := Lib.hid hv
    have KK2 := Lib.hid (HK1.out.below hb2)
    obtain ⟨pa, hpa⟩ := hv.ptr
    clear hv
    subst hpa
    have HB2 := Lib.hid (HB1.out.trans (hb2.mono HB1.out.size))
    clear hb2 HB1
    go_wp2_with fail
    refine (dev_sign_nil 0 [] w2).mono ?_
    rintro e w3 ⟨rfl, hb3⟩
    have HB3 := Lib.hid (HB2.out.trans (hb3.mono HB2.out.size))
    have KS3 := Lib.hid (KS2.out.below hb3)
    have KK3 := Lib.hid (KK2.out.below hb3)
    clear hb3 HB2 KS2 KK2
    go_wp2_with fail
    refine (dev_count_nil w3).mono ?_
    rintro e w4 ⟨rfl, hb4⟩
    have HB4 := Lib.hid (HB3.out.trans (hb4.mono HB3.out.size))
    have KS4 := Lib.hid (KS3.out.below hb4)
    have KK4 := Lib.hid (KK3.out.below hb4)
    clear hb4 HB3 KS3 KK3
    go_wp2_with fail
    refine (HNN.out w4).mono ?_
    rintro e w5 ⟨rfl, hb5⟩
    have HB5 := Lib.hid (HB4.out.trans (hb5.mono HB4.out.size))
    have KS5 := Lib.hid (KS4.out.below hb5)
    have KK5 := Lib.hid (KK4.out.below hb5)
    clear hb5 HB4 KS4 KK4
    have hwn : wideN (n : Int) = 2 ^ n := wideN_ok hn1 hn8
    have hwz : ((2 ^ n : Nat) : Int) ≠ 0 := by have := Nat.two_pow_pos n; omega
    have hwb : (((2 ^ n : Nat) : Int) == 0) = false := by rw [beq_eq_false_iff_ne]; exact hwz
    have HWI := Lib.hid (fun w => ref_wide (n : Int) w)
    have HLV := Lib.hid (fun w => ref_leaves seed (n : Int) w (by omega))
    rw [hwn] at HWI HLV
    have HLO := Lib.hid (leavesN_ok seed (2 ^ n))
    have HRT := Lib.hid (fun ao cap w hE => ref_root6 (leavesN seed (2 ^ n)) n ao cap w (leavesN_ok _ _) hE (leavesN_len _ _) hn8)
    have hr1 := (rootK_ok seed n).1
    have hr2 := (rootK_ok seed n).2
    have HND := Lib.hid (fun v w (k : KeysIs v seed n w) => dev_node v seed n w k)
    have HCT := Lib.hid (fun v w (k : KeysIs v seed n w) => dev_count v seed n w k)
    have hLL := leavesN_len seed (2 ^ n)
    rw [show atN (leavesN seed (2 ^ n)) n 0 = rootK seed n from rfl, hLL] at HRT
    obtain ⟨r, hr⟩ : ∃ r, rootK seed n = r := ⟨_, rfl⟩
    rw [hr] at hr1 hr2 HND HRT
    have HDD := Lib.hid (fun w hk => dev_digest6 r i t w hr1 hr2 BI.out.1 BI.out.2 HT.out hk)
    have HDR := Lib.hid (fun w => ref_digest6 r i t w hr1 hr2 BI.out.2 HT.out)
    have hd1 := digK_len r i t
    have hd2 := digK_lt r i t
    obtain ⟨D, hD⟩ : ∃ D, digK r i t = D := ⟨_, rfl⟩
    rw [hD] at HDD HDR hd1 hd2
    have e1 := fun w => equal_node r r n n hr1 hr1 hr2 hr2 w
    have e2 := fun w => equal_elem D D hd1 hd1 hd2 hd2 w
    rw [beq_self_eq_true, beq_self_eq_true, Bool.true_and] at e1
    rw [beq_self_eq_true] at e2
    have HR := Lib.hid hr1
    have HIR := Lib.hid (show (Tryd.prog.info? 31).map (·.size) = some r.length by rw [hr1]; exact Tryd.infoE)
    have HLR := Lib.hid (show (List.replicate 16 0).length = r.length by rw [hr1]; rfl)
    have hm256 : 2 ^ n ≤ 256 := Nat.le_trans (Nat.pow_le_pow_right (by decide) hn8) (by decide)
    obtain ⟨m, hm⟩ : ∃ m, 2 ^ n = m := ⟨_, rfl⟩
    rw [hm] at HWI HLV HLO HRT HCT hLL hwb hwz hm256
    have HLL := Lib.hid hLL
    clear hr hD hr1 hr2 hd1 hd2 hm hLL hwn
    go_wp2_with fail
    refine (HWI.out w5).mono ?_
    rintro e w6 ⟨rfl, rfl⟩
    go_wp2_with fail
    refine (HLV.out w6).mono ?_
    rintro e w7 ⟨⟨lv, rfl, ho⟩, hb7⟩
    obtain ⟨a1, q1, rfl⟩ := ho.form
    have HE7 := Lib.hid (ho.at HLO.out)
    rw [HLL.out]
    have KS7 := Lib.hid (KS5.out.below hb7)
    have KK7 := Lib.hid (KK5.out.below hb7)
    have HB7 := Lib.hid (HB5.out.trans (hb7.mono HB5.out.size))
    clear ho hb7 KS5 KK5 HB5
    go_wp2_with fail
    refine (HRT.out a1 q1 w7 HE7.out).mono ?_
    rintro e w8 ⟨rfl, hb8⟩
    have KS8 := Lib.hid (KS7.out.below hb8)
    have KK8 := Lib.hid (KK7.out.below hb8)
    have HB8 := Lib.hid (HB7.out.trans (hb8.mono HB7.out.size))
    clear hb8 KS7 KK7 HB7 HE7
    have HX := Lib.hid (show Blk w8.heap.size 31 .u8 (List.replicate 16 0) (w8.alloc (.cells (nums .u8 (List.replicate 16 0)).toArray 31)) from heap_alloc_new w8 _)
    go_wp2_with (refine wpList_store_nums rfl 31 _ _ rfl rfl w8.heap.size .u8 _ r 31 rfl rfl HX.out HIR.out HLR.out ?_)
    intro w9 hc hb
    have HX9 := Lib.hid (show Blk w8.heap.size 31 .u8 r w9 from hc.out)
    have hb9 : Below w8.heap.size w8 w9 := But.toBelow ((Below.refl _ w8).alloc (Nat.le_refl _) _) hb.out (Nat.le_refl _) (by simp)
    have KS9 := Lib.hid (KS8.out.below hb9)
    have KK9 := Lib.hid (KK8.out.below hb9)
    have HB9 := Lib.hid (HB8.out.trans (hb9.mono HB8.out.size))
    obtain ⟨gx, hgx⟩ : ∃ g, g = w8.heap.size := ⟨_, rfl⟩
    rw [← hgx] at HX9 ⊢
    clear hc hb hb9 HX KS8 KK8 HB8 hgx
    go_upto_region 14 with (fail)
    refine wp_region_class (fun w' => SS w9 w') (by kernel_rfl) (by kernel_rfl) (SS.start KK9.out) ?_
    repeat (first
      | go_big_quiet_skip
      | (go_big_quiet_want; refine quiet_load_nums 31 _ rfl gx .u8 r 31 _ rfl (fun w' h => HX9.out.below h.1) Tryd.underlying31 rfl HIR.out ?_; go_big_quiet_on; simp only [Act.put, List.setIfInBounds_toArray, List.set_cons_zero, List.set_cons_succ])
      | (go_big_quiet_want; refine quiet_build_node (.tmp 82) (.tmp 83) rfl r n rfl rfl HR.out ?_; go_big_quiet_on; simp only [Act.put, List.setIfInBounds_toArray, List.set_cons_zero, List.set_cons_succ])
      | go_big_quiet_step ((intro hs'; first
          | rfl
          | (go_at_call 12; exact (HND.out _ _ (KS9.out.below hs'.1)).mono fun e w' h => ⟨h.1, hs'.next h.2⟩)
          | (go_at_call 11; exact (HCT.out _ _ (KS9.out.below hs'.1)).mono fun e w' h => ⟨h.1, hs'.next h.2⟩)
          | (go_at_call 16; exact (HDD.out _ hs'.2).mono fun e w' h => ⟨h.1, hs'.next h.2⟩)
          | (go_at_call 17; exact (HDR.out _).mono fun e w' h => ⟨h.1, hs'.next h.2⟩)
          | (go_at_call 18; exact (dev_size (n : Int) _ (by omega) (by omega)).mono fun e w' h => ⟨h.1, hs'.next h.2⟩))))
    refine wpQuiet_nil ?_
    intro w10 hs10
    have HB10 := Lib.hid (HB9.out.trans (hs10.1.mono HB9.out.size))
    clear hs10
    go_wp2_with fail
    go_ret
    exact ⟨rfl, HB10.out⟩
end Go.Proofs.YtcjjhddppcmgoaaDoor.keysAre
