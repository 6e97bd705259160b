/-
  The walk of the law StepsJoin.
-/
import Derived.Test.YtjgjgmjdoihmiaaDoorAlive3
import Derived.Test.YtjgjgmjdoihmiaaDoorFree
import Derived.OpenShut
namespace Go.Proofs.YtjgjgmjdoihmiaaDoor.stepsJoin
open Go.RowKit Go.BigFrame

theorem join (x : List Nat) (pl : List UInt8) {a b c : Int} (h0 : 0 ≤ a) (h1 : a ≤ b) (h2 : b ≤ c) (h3 : c ≤ 15) : walkI (walkI x pl a b) pl b c = walkI x pl a c := by
  unfold walkI
  have e1 : (max b 0).toNat = (max a 0).toNat + ((min b 15).toNat - (max a 0).toNat) := by omega
  have e2 : (min c 15).toNat - (max a 0).toNat = ((min b 15).toNat - (max a 0).toNat) + ((min c 15).toNat - (max b 0).toNat) := by omega
  rw [e2, ← walkN_add, ← e1]

set_option maxHeartbeats 4000000 in
set_option maxRecDepth 100000 in
theorem walk (w : World) (hk : KAt w) (x : List Nat) (hx : x.length = 16) (lx : ∀ d ∈ x, d < 256) (i : Int) (wi : (Lit.int .i64 i).wf = true) (j : Int) (wj : (Lit.int .i64 j).wf = true) (a : Int) (wa : (Lit.int .i64 a).wf = true) (b : Int) (wb : (Lit.int .i64 b).wf = true) (c : Int) (wc : (Lit.int .i64 c).wf = true) :
    Calls Tryd.prog 5 #[.agg (nums .u8 x).toArray, .int .i64 i, .int .i64 j, .int .i64 a, .int .i64 b, .int .i64 c] w fun e w' => e = .returned (.bool true) ∧ Below w.heap.size w w' := by
  have HK := Lib.hid hk
  have HX := Lib.hid hx
  have LX := Lib.hid lx
  have BI := Lib.hid (bounds_i64 wi)
  have BJ := Lib.hid (bounds_i64 wj)
  have BA := Lib.hid (bounds_i64 wa)
  have BB := Lib.hid (bounds_i64 wb)
  have BC := Lib.hid (bounds_i64 wc)
  clear hk hx lx wi wj wa wb wc
  go_enter Tryd.func5, Tryd.ntmps5
  go_upto_region 1 with (fail)
  obtain ⟨w1, hw1⟩ : ∃ x', x' = w.alloc (.cells (nums .u8 x).toArray 22) := ⟨_, rfl⟩
  rw [← hw1]
  have hb1 : Below w.heap.size w w1 := by rw [hw1]; exact (Below.refl _ _).alloc (Nat.le_refl _) _
  have HX1 := Lib.hid (show Blk w.heap.size 22 .u8 x w1 by rw [hw1]; exact heap_alloc_new w _)
  have HB1 := Lib.hid hb1
  have HK1 := Lib.hid (HK.out.below hb1)
  clear hb1 hw1 HK
  go_wp2_with fail
  refine (alive3_any w1 HK1.out).mono ?_
  rintro e w2 ⟨rfl, hb2⟩
  have HX2 := Lib.hid (HX1.out.below hb2)
  have HB2 := Lib.hid (HB1.out.trans (hb2.mono HB1.out.size))
  have HK2 := Lib.hid (HK1.out.below hb2)
  clear hb2 HX1 HB1 HK1
  by_cases h0 : a < 0
  · go_wp2_with fail
    go_ret
    exact ⟨rfl, HB2.out⟩
  by_cases h1 : b < a
  · go_wp2_with fail
    go_ret
    exact ⟨rfl, HB2.out⟩
  by_cases h2 : c < b
  · go_wp2_with fail
    go_ret
    exact ⟨rfl, HB2.out⟩
  by_cases h3 : 15 < c
  · go_wp2_with fail
    go_ret
    exact ⟨rfl, HB2.out⟩
  have HJ := Lib.hid (join x (placeB i j) (a := a) (b := b) (c := c) (by omega) (by omega) (by omega) (by omega))
  have HS1 := Lib.hid (walk_still x (placeB i j) c a (by omega))
  have HS2 := Lib.hid (walk_still x (placeB i j) b b (Int.le_refl _))
  have g0 : decide (a < 0) = false := by simpa using h0
  have g1 : decide (b < a) = false := by simpa using h1
  have g2 : decide (c < b) = false := by simpa using h2
  have g3 : decide (15 < c) = false := by simpa using h3
  clear h0 h1 h2 h3
  go_upto_region 6 with (fail)
  clear g0 g1 g2 g3
  have HIX := Lib.hid (show (Tryd.prog.info? 22).map (·.size) = some x.length by rw [HX.out]; kernel_rfl)
  have HIP := Lib.hid (show (Tryd.prog.info? 27).map (·.size) = some #[Value.int .i64 i, Value.int .i64 j].size from Tryd.infoP)
  obtain ⟨w3, hw3⟩ : ∃ x', x' = w2.alloc (.cells #[.int .i64 i, .int .i64 j] 27) := ⟨_, rfl⟩
  rw [← hw3]
  have hb3 : Below w2.heap.size w2 w3 := by rw [hw3]; exact (Below.refl _ _).alloc (Nat.le_refl _) _
  have hc : Cells w2.heap.size 27 #[.int .i64 i, .int .i64 j] w3 := by rw [hw3]; exact heap_alloc_new w2 _
  have HP3 := Lib.hid (show Cells w2.heap.size 27 #[.int .i64 i, .int .i64 j] w3 from hc)
  have HX3 := Lib.hid (HX2.out.below hb3)
  have HB3 := Lib.hid (HB2.out.trans (hb3.mono HB2.out.size))
  have HK3 := Lib.hid (HK2.out.below hb3)
  obtain ⟨gx, hgx⟩ : ∃ g, g = w.heap.size := ⟨_, rfl⟩
  obtain ⟨gp, hgp⟩ : ∃ g, g = w2.heap.size := ⟨_, rfl⟩
  rw [← hgx] at HX3
  rw [← hgp] at HP3 ⊢
  rw [show (Addr.mk w.heap.size 0 none) = ⟨gx, 0, none⟩ by rw [hgx]]
  have HGX := Lib.hid (show w.heap.size = gx from hgx.symm)
  clear hc hb3 hw3 HX2 HB2 HK2 hgx hgp
  go_wp2_with (first | (refine wpList_load_nums rfl 22 (.tmp 6) rfl gx .u8 _ 22 _ rfl HX3.out Tryd.underlying22 rfl HIX.out ?_) | (refine wpList_load_cells rfl 27 (.tmp 13) rfl gp _ 27 _ rfl HP3.out Tryd.underlying27 rfl HIP.out ?_))
  refine (dev_walk x i j a b w3 HX.out LX.out BI.out.1 BI.out.2 BJ.out.1 BJ.out.2 BA.out.1 BA.out.2 BB.out.1 BB.out.2 HK3.out).mono ?_
  rintro e w4 ⟨rfl, hb4⟩
  have HX4 := Lib.hid (HX3.out.below hb4)
  have HP4 := Lib.hid (HP3.out.below hb4)
  have HB4 := Lib.hid (HB3.out.trans (hb4.mono HB3.out.size))
  have HK4 := Lib.hid (HK3.out.below hb4)
  clear hb4 HX3 HP3 HB3 HK3
  have HYL := Lib.hid (show (walkI x (placeB i j) a b).length = 16 from walkN_len HX.out _ _ _)
  have LYL := Lib.hid (show ∀ d ∈ walkI x (placeB i j) a b, d < 256 from walkN_lt LX.out _ _ _)
  have HZL := Lib.hid (show (walkI x (placeB i j) a c).length = 16 from walkN_len HX.out _ _ _)
  have LZL := Lib.hid (show ∀ d ∈ walkI x (placeB i j) a c, d < 256 from walkN_lt LX.out _ _ _)
  have D1 := fun w hk => dev_walk (walkI x (placeB i j) a b) i j b c w HYL.out LYL.out BI.out.1 BI.out.2 BJ.out.1 BJ.out.2 BB.out.1 BB.out.2 BC.out.1 BC.out.2 hk
  have D2 := fun w hk => dev_walk x i j a c w HX.out LX.out BI.out.1 BI.out.2 BJ.out.1 BJ.out.2 BA.out.1 BA.out.2 BC.out.1 BC.out.2 hk
  have D3 := fun w hk => dev_walk x i j c a w HX.out LX.out BI.out.1 BI.out.2 BJ.out.1 BJ.out.2 BC.out.1 BC.out.2 BA.out.1 BA.out.2 hk
  have D4 := fun w hk => dev_walk x i j b b w HX.out LX.out BI.out.1 BI.out.2 BJ.out.1 BJ.out.2 BB.out.1 BB.out.2 BB.out.1 BB.out.2 hk
  rw [HJ.out] at D1
  rw [HS1.out] at D3
  rw [HS2.out] at D4
  have D1 := Lib.hid D1
  have D2 := Lib.hid D2
  have D3 := Lib.hid D3
  have D4 := Lib.hid D4
  generalize walkI x (placeB i j) a b = Y at *
  generalize walkI x (placeB i j) a c = Z at *
  clear HJ HS1 HS2
  have HIY := Lib.hid (show (Tryd.prog.info? 24).map (·.size) = some Y.length by rw [HYL.out]; exact Tryd.infoE)
  have HLY := Lib.hid (show (List.replicate 16 0).length = Y.length by rw [HYL.out]; rfl)
  have HZ := Lib.hid (show Blk w4.heap.size 24 .u8 (List.replicate 16 0) (w4.alloc (.cells (nums .u8 (List.replicate 16 0)).toArray 24)) from heap_alloc_new w4 _)
  go_wp2_with (refine wpList_store_nums rfl 24 _ _ rfl rfl w4.heap.size .u8 _ Y 24 rfl rfl HZ.out HIY.out HLY.out ?_)
  intro w5 hc hb
  have hb5 : Below w4.heap.size w4 w5 := But.toBelow ((Below.refl _ w4).alloc (Nat.le_refl _) (.cells (nums .u8 (List.replicate 16 0)).toArray 24)) hb.out (Nat.le_refl _) (by simp)
  have HX5 := Lib.hid (HX4.out.below hb5)
  have HP5 := Lib.hid (HP4.out.below hb5)
  have HB5 := Lib.hid (HB4.out.trans (hb5.mono HB4.out.size))
  have HK5 := Lib.hid (HK4.out.below hb5)
  obtain ⟨gy, hgy⟩ : ∃ g, g = w4.heap.size := ⟨_, rfl⟩
  have HY5 := Lib.hid (show Blk gy 24 .u8 Y w5 by rw [hgy]; exact hc.out)
  rw [← hgy]
  clear hc hb hb5 hgy HX4 HP4 HB4 HK4 HZ HLY
  have e1 := fun w => equal_elem Z Z HZL.out HZL.out LZL.out LZL.out w
  have e2 := fun w => equal_elem x x HX.out HX.out LX.out LX.out w
  rw [beq_self_eq_true] at e1 e2
  go_upto_region 7 with (fail)
  refine wp_region_class (fun w' => SS w5 w') (by kernel_rfl) (by kernel_rfl) (SS.start HK5.out) ?_
  repeat (first
    | (refine wpQuiet_want (by rfl) (fun K hK => ?_); refine quiet_load_nums 22 (.tmp 6) rfl gx .u8 x 22 _ rfl (fun w' h => HX5.out.below h.1) Tryd.underlying22 rfl HIX.out ?_; refine hK _ ?_; clear hK K; simp only [Act.put, List.setIfInBounds_toArray, List.set_cons_zero, List.set_cons_succ])
    | (refine wpQuiet_want (by rfl) (fun K hK => ?_); refine quiet_load_nums 24 (.tmp 14) rfl gy .u8 Y 24 _ rfl (fun w' h => HY5.out.below h.1) Tryd.underlying24 rfl HIY.out ?_; refine hK _ ?_; clear hK K; simp only [Act.put, List.setIfInBounds_toArray, List.set_cons_zero, List.set_cons_succ])
    | (refine wpQuiet_want (by rfl) (fun K hK => ?_); refine quiet_load_cells 27 (.tmp 13) rfl gp #[.int .i64 i, .int .i64 j] 27 _ rfl (fun w' h => HP5.out.below h.1) Tryd.underlying27 rfl HIP.out ?_; refine hK _ ?_; clear hK K; simp only [Act.put, List.setIfInBounds_toArray, List.set_cons_zero, List.set_cons_succ])
    | go_big_quiet_step ((intro hs; rfl)))
  go_big_quiet_step ((intro hs; exact (D1.out _ hs.2).mono fun e w' h => ⟨h.1, hs.next h.2⟩))
  repeat (first
    | (refine wpQuiet_want (by rfl) (fun K hK => ?_); refine quiet_load_nums 22 (.tmp 6) rfl gx .u8 x 22 _ rfl (fun w' h => HX5.out.below h.1) Tryd.underlying22 rfl HIX.out ?_; refine hK _ ?_; clear hK K; simp only [Act.put, List.setIfInBounds_toArray, List.set_cons_zero, List.set_cons_succ])
    | (refine wpQuiet_want (by rfl) (fun K hK => ?_); refine quiet_load_nums 24 (.tmp 14) rfl gy .u8 Y 24 _ rfl (fun w' h => HY5.out.below h.1) Tryd.underlying24 rfl HIY.out ?_; refine hK _ ?_; clear hK K; simp only [Act.put, List.setIfInBounds_toArray, List.set_cons_zero, List.set_cons_succ])
    | (refine wpQuiet_want (by rfl) (fun K hK => ?_); refine quiet_load_cells 27 (.tmp 13) rfl gp #[.int .i64 i, .int .i64 j] 27 _ rfl (fun w' h => HP5.out.below h.1) Tryd.underlying27 rfl HIP.out ?_; refine hK _ ?_; clear hK K; simp only [Act.put, List.setIfInBounds_toArray, List.set_cons_zero, List.set_cons_succ])
    | go_big_quiet_step ((intro hs; rfl)))
  go_big_quiet_step ((intro hs; exact (D2.out _ hs.2).mono fun e w' h => ⟨h.1, hs.next h.2⟩))
  repeat (first
    | (refine wpQuiet_want (by rfl) (fun K hK => ?_); refine quiet_load_nums 22 (.tmp 6) rfl gx .u8 x 22 _ rfl (fun w' h => HX5.out.below h.1) Tryd.underlying22 rfl HIX.out ?_; refine hK _ ?_; clear hK K; simp only [Act.put, List.setIfInBounds_toArray, List.set_cons_zero, List.set_cons_succ])
    | (refine wpQuiet_want (by rfl) (fun K hK => ?_); refine quiet_load_nums 24 (.tmp 14) rfl gy .u8 Y 24 _ rfl (fun w' h => HY5.out.below h.1) Tryd.underlying24 rfl HIY.out ?_; refine hK _ ?_; clear hK K; simp only [Act.put, List.setIfInBounds_toArray, List.set_cons_zero, List.set_cons_succ])
    | (refine wpQuiet_want (by rfl) (fun K hK => ?_); refine quiet_load_cells 27 (.tmp 13) rfl gp #[.int .i64 i, .int .i64 j] 27 _ rfl (fun w' h => HP5.out.below h.1) Tryd.underlying27 rfl HIP.out ?_; refine hK _ ?_; clear hK K; simp only [Act.put, List.setIfInBounds_toArray, List.set_cons_zero, List.set_cons_succ])
    | go_big_quiet_step ((intro hs; rfl)))
  go_big_quiet_step ((intro hs; exact (D3.out _ hs.2).mono fun e w' h => ⟨h.1, hs.next h.2⟩))
  repeat (first
    | (refine wpQuiet_want (by rfl) (fun K hK => ?_); refine quiet_load_nums 22 (.tmp 6) rfl gx .u8 x 22 _ rfl (fun w' h => HX5.out.below h.1) Tryd.underlying22 rfl HIX.out ?_; refine hK _ ?_; clear hK K; simp only [Act.put, List.setIfInBounds_toArray, List.set_cons_zero, List.set_cons_succ])
    | (refine wpQuiet_want (by rfl) (fun K hK => ?_); refine quiet_load_nums 24 (.tmp 14) rfl gy .u8 Y 24 _ rfl (fun w' h => HY5.out.below h.1) Tryd.underlying24 rfl HIY.out ?_; refine hK _ ?_; clear hK K; simp only [Act.put, List.setIfInBounds_toArray, List.set_cons_zero, List.set_cons_succ])
    | (refine wpQuiet_want (by rfl) (fun K hK => ?_); refine quiet_load_cells 27 (.tmp 13) rfl gp #[.int .i64 i, .int .i64 j] 27 _ rfl (fun w' h => HP5.out.below h.1) Tryd.underlying27 rfl HIP.out ?_; refine hK _ ?_; clear hK K; simp only [Act.put, List.setIfInBounds_toArray, List.set_cons_zero, List.set_cons_succ])
    | go_big_quiet_step ((intro hs; rfl)))
  go_big_quiet_step ((intro hs; exact (D4.out _ hs.2).mono fun e w' h => ⟨h.1, hs.next h.2⟩))
  repeat (first
    | (refine wpQuiet_want (by rfl) (fun K hK => ?_); refine quiet_load_nums 22 (.tmp 6) rfl gx .u8 x 22 _ rfl (fun w' h => HX5.out.below h.1) Tryd.underlying22 rfl HIX.out ?_; refine hK _ ?_; clear hK K; simp only [Act.put, List.setIfInBounds_toArray, List.set_cons_zero, List.set_cons_succ])
    | (refine wpQuiet_want (by rfl) (fun K hK => ?_); refine quiet_load_nums 24 (.tmp 14) rfl gy .u8 Y 24 _ rfl (fun w' h => HY5.out.below h.1) Tryd.underlying24 rfl HIY.out ?_; refine hK _ ?_; clear hK K; simp only [Act.put, List.setIfInBounds_toArray, List.set_cons_zero, List.set_cons_succ])
    | (refine wpQuiet_want (by rfl) (fun K hK => ?_); refine quiet_load_cells 27 (.tmp 13) rfl gp #[.int .i64 i, .int .i64 j] 27 _ rfl (fun w' h => HP5.out.below h.1) Tryd.underlying27 rfl HIP.out ?_; refine hK _ ?_; clear hK K; simp only [Act.put, List.setIfInBounds_toArray, List.set_cons_zero, List.set_cons_succ])
    | go_big_quiet_step ((intro hs; rfl)))
  refine wpQuiet_nil ?_
  intro w6 hs
  have HB6 := Lib.hid (HB5.out.trans (hs.1.mono HB5.out.size))
  clear hs e1 e2
  go_wp2_with fail
  go_ret
  exact ⟨rfl, HB6.out⟩
end Go.Proofs.YtjgjgmjdoihmiaaDoor.stepsJoin
