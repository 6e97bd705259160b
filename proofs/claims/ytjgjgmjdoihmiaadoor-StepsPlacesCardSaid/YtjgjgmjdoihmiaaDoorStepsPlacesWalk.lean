/-
  The walk of the law StepsPlaces.
-/
import Derived.Test.YtjgjgmjdoihmiaaDoorAlive3
import Derived.Test.YtjgjgmjdoihmiaaDoorNextR
import Derived.Test.YtjgjgmjdoihmiaaDoorFree
import Derived.OpenShut
namespace Go.Proofs.YtjgjgmjdoihmiaaDoor.stepsPlaces
open Go.RowKit Go.BigFrame

theorem one (x : List Nat) (pl : List UInt8) {a : Int} (h0 : 0 ≤ a) (h1 : a ≤ 14) : walkI x pl a (a + 1) = nextN x a.toNat pl := by
  unfold walkI
  rw [show (max a 0).toNat = a.toNat by omega, show (min (a + 1) 15).toNat - a.toNat = 0 + 1 by omega]
  rfl

set_option maxHeartbeats 8000000 in
set_option maxRecDepth 100000 in
theorem walk (w : World) (hk : KAt w) (x : List Nat) (hx : x.length = 16) (lx : ∀ d ∈ x, d < 256) (i : Int) (wi : (Lit.int .i64 i).wf = true) (c : Int) (wc : (Lit.int .i64 c).wf = true) (o : Int) (wo : (Lit.int .i64 o).wf = true) (a : Int) (wa : (Lit.int .i64 a).wf = true) :
    Calls Tryd.prog 7 #[.agg (nums .u8 x).toArray, .int .i64 i, .int .i64 c, .int .i64 o, .int .i64 a] w fun e w' => e = .returned (.bool true) ∧ Below w.heap.size w w' := by
  have HK := Lib.hid hk
  have HX := Lib.hid hx
  have LX := Lib.hid lx
  have BI := Lib.hid (bounds_i64 wi)
  have BC := Lib.hid (bounds_i64 wc)
  have BO := Lib.hid (bounds_i64 wo)
  have BA := Lib.hid (bounds_i64 wa)
  clear hk hx lx wi wc wo wa
  go_enter Tryd.func7, Tryd.ntmps7
  go_upto_region 1 with (fail)
  obtain ⟨w1, hw1⟩ : ∃ x', x' = w.alloc (.cells (nums .u8 x).toArray 22) := ⟨_, rfl⟩
  rw [← hw1]
  have hb1 : Below w.heap.size w w1 := by rw [hw1]; exact (Below.refl _ _).alloc (Nat.le_refl _) _
  have HX1 := Lib.hid (show Blk w.heap.size 22 .u8 x w1 by rw [hw1]; exact heap_alloc_new w _)
  have HB1 := Lib.hid hb1
  have HK1 := Lib.hid (HK.out.below hb1)
  clear hb1 hw1 HK
  go_wp2_with fail
  refine (alive3_any w1 HK1.out).mono ?_
  rintro e w2 ⟨rfl, hb2⟩
  have HX2 := Lib.hid (HX1.out.below hb2)
  have HB2 := Lib.hid (HB1.out.trans (hb2.mono HB1.out.size))
  have HK2 := Lib.hid (HK1.out.below hb2)
  clear hb2 HX1 HB1 HK1
  by_cases h0 : i < 0
  · go_wp2_with fail
    go_ret
    exact ⟨rfl, HB2.out⟩
  by_cases h1 : c < 0
  · go_wp2_with fail
    go_ret
    exact ⟨rfl, HB2.out⟩
  by_cases h2 : o < 0
  · go_wp2_with fail
    go_ret
    exact ⟨rfl, HB2.out⟩
  by_cases h3 : a < 0
  · go_wp2_with fail
    go_ret
    exact ⟨rfl, HB2.out⟩
  by_cases h4 : 14 < a
  · go_wp2_with fail
    go_ret
    exact ⟨rfl, HB2.out⟩
  have g0 : decide (i < 0) = false := by simpa using h0
  have g1 : decide (c < 0) = false := by simpa using h1
  have g2 : decide (o < 0) = false := by simpa using h2
  have g3 : decide (a < 0) = false := by simpa using h3
  have g4 : decide (14 < a) = false := by simpa using h4
  obtain ⟨an, rfl⟩ : ∃ n : Nat, a = n := ⟨a.toNat, by omega⟩
  have O1 := Lib.hid (one x (placeB i c) (a := an) (by omega) (by omega))
  have O2 := Lib.hid (one x (placeB o c) (a := an) (by omega) (by omega))
  have O3 := Lib.hid (one x (placeB i o) (a := an) (by omega) (by omega))
  have HAN := Lib.hid (show an ≤ 14 by omega)
  clear h0 h1 h2 h3 h4
  go_upto_region 5 with (fail)
  clear g0 g1 g2 g3 g4
  have HIX := Lib.hid (show (Tryd.prog.info? 22).map (·.size) = some x.length by rw [HX.out]; kernel_rfl)
  obtain ⟨gx, hgx⟩ : ∃ g, g = w.heap.size := ⟨_, rfl⟩
  rw [← hgx] at HX2
  rw [show (Addr.mk w.heap.size 0 none) = ⟨gx, 0, none⟩ by rw [hgx]]
  clear hgx
  have hwr : IntKind.i64.wrap ((an : Int) + 1) = (an : Int) + 1 := by have := HAN.out; rw [IntKind.wrap_i64]; omega
  have D1 := fun w hk => dev_walk x i c an (an + 1) w HX.out LX.out BI.out.1 BI.out.2 BC.out.1 BC.out.2 (by have := HAN.out; omega) (by have := HAN.out; omega) (by have := HAN.out; omega) (by have := HAN.out; omega) hk
  have D2 := fun w hk => dev_walk x o c an (an + 1) w HX.out LX.out BO.out.1 BO.out.2 BC.out.1 BC.out.2 (by have := HAN.out; omega) (by have := HAN.out; omega) (by have := HAN.out; omega) (by have := HAN.out; omega) hk
  have D3 := fun w hk => dev_walk x i o an (an + 1) w HX.out LX.out BI.out.1 BI.out.2 BO.out.1 BO.out.2 (by have := HAN.out; omega) (by have := HAN.out; omega) (by have := HAN.out; omega) (by have := HAN.out; omega) hk
  have N1 := fun w => ref_next x i c an w HX.out LX.out BI.out.1 BI.out.2 BC.out.1 BC.out.2 (by omega) (by have := HAN.out; omega)
  have N2 := fun w => ref_next x o c an w HX.out LX.out BO.out.1 BO.out.2 BC.out.1 BC.out.2 (by omega) (by have := HAN.out; omega)
  have N3 := fun w => ref_next x i o an w HX.out LX.out BI.out.1 BI.out.2 BO.out.1 BO.out.2 (by omega) (by have := HAN.out; omega)
  rw [O1.out] at D1
  rw [O2.out] at D2
  rw [O3.out] at D3
  replace D1 := Lib.hid D1
  replace D2 := Lib.hid D2
  replace D3 := Lib.hid D3
  replace N1 := Lib.hid N1
  replace N2 := Lib.hid N2
  replace N3 := Lib.hid N3
  clear O1 O2 O3
  have LA := Lib.hid (nextN_len x (an : Int).toNat (placeB i c))
  have LB := Lib.hid (nextN_len x (an : Int).toNat (placeB o c))
  have LC := Lib.hid (nextN_len x (an : Int).toNat (placeB i o))
  have TA := Lib.hid (nextN_lt x (an : Int).toNat (placeB i c))
  have TB := Lib.hid (nextN_lt x (an : Int).toNat (placeB o c))
  have TC := Lib.hid (nextN_lt x (an : Int).toNat (placeB i o))
  have HAB := Lib.hid (show i = o → nextN x (an : Int).toNat (placeB i c) = nextN x (an : Int).toNat (placeB o c) from fun e => by rw [e])
  have HAC := Lib.hid (show c = o → nextN x (an : Int).toNat (placeB i c) = nextN x (an : Int).toNat (placeB i o) from fun e => by rw [e])
  generalize nextN x (an : Int).toNat (placeB i c) = A at *
  generalize nextN x (an : Int).toNat (placeB o c) = B at *
  generalize nextN x (an : Int).toNat (placeB i o) = C at *
  go_wp2_with (refine wpList_load_nums rfl 22 (.tmp 5) rfl gx .u8 _ 22 _ rfl HX2.out Tryd.underlying22 rfl HIX.out ?_)
  refine (D1.out w2 HK2.out).mono ?_
  rintro e w3 ⟨rfl, hb⟩
  have HX3 := Lib.hid (HX2.out.below hb)
  have HB3 := Lib.hid (HB2.out.trans (hb.mono HB2.out.size))
  have HK3 := Lib.hid (HK2.out.below hb)
  clear hb HB2 HK2 HX2
  have HIA := Lib.hid (show (Tryd.prog.info? 24).map (·.size) = some A.length by rw [LA.out]; exact Tryd.infoE)
  have HLY := Lib.hid (show (List.replicate 16 0).length = A.length by rw [LA.out]; rfl)
  have HZ := Lib.hid (show Blk w3.heap.size 24 .u8 (List.replicate 16 0) (w3.alloc (.cells (nums .u8 (List.replicate 16 0)).toArray 24)) from heap_alloc_new w3 _)
  go_wp2_with (refine wpList_store_nums rfl 24 _ _ rfl rfl w3.heap.size .u8 _ A 24 rfl rfl HZ.out HIA.out HLY.out ?_)
  intro w4 hc hb
  have hb5 : Below w3.heap.size w3 w4 := But.toBelow ((Below.refl _ w3).alloc (Nat.le_refl _) (.cells (nums .u8 (List.replicate 16 0)).toArray 24)) hb.out (Nat.le_refl _) (by simp)
  have HX4 := Lib.hid (HX3.out.below hb5)
  have HB4 := Lib.hid (HB3.out.trans (hb5.mono HB3.out.size))
  have HK4 := Lib.hid (HK3.out.below hb5)
  obtain ⟨gA, hg⟩ : ∃ g, g = w3.heap.size := ⟨_, rfl⟩
  have RA4 := Lib.hid (show Blk gA 24 .u8 A w4 by rw [hg]; exact hc.out)
  rw [← hg]
  clear hc hb hb5 hg HZ HLY HB3 HK3 HX3
  go_wp2_with (refine wpList_load_nums rfl 22 (.tmp 5) rfl gx .u8 _ 22 _ rfl HX4.out Tryd.underlying22 rfl HIX.out ?_)
  refine (D2.out w4 HK4.out).mono ?_
  rintro e w5 ⟨rfl, hb⟩
  have HX5 := Lib.hid (HX4.out.below hb)
  have RA5 := Lib.hid (RA4.out.below hb)
  have HB5 := Lib.hid (HB4.out.trans (hb.mono HB4.out.size))
  have HK5 := Lib.hid (HK4.out.below hb)
  clear hb HB4 HK4 HX4 RA4
  have HIB := Lib.hid (show (Tryd.prog.info? 24).map (·.size) = some B.length by rw [LB.out]; exact Tryd.infoE)
  have HLY := Lib.hid (show (List.replicate 16 0).length = B.length by rw [LB.out]; rfl)
  have HZ := Lib.hid (show Blk w5.heap.size 24 .u8 (List.replicate 16 0) (w5.alloc (.cells (nums .u8 (List.replicate 16 0)).toArray 24)) from heap_alloc_new w5 _)
  go_wp2_with (refine wpList_store_nums rfl 24 _ _ rfl rfl w5.heap.size .u8 _ B 24 rfl rfl HZ.out HIB.out HLY.out ?_)
  intro w6 hc hb
  have hb5 : Below w5.heap.size w5 w6 := But.toBelow ((Below.refl _ w5).alloc (Nat.le_refl _) (.cells (nums .u8 (List.replicate 16 0)).toArray 24)) hb.out (Nat.le_refl _) (by simp)
  have HX6 := Lib.hid (HX5.out.below hb5)
  have RA6 := Lib.hid (RA5.out.below hb5)
  have HB6 := Lib.hid (HB5.out.trans (hb5.mono HB5.out.size))
  have HK6 := Lib.hid (HK5.out.below hb5)
  obtain ⟨gB, hg⟩ : ∃ g, g = w5.heap.size := ⟨_, rfl⟩
  have RB6 := Lib.hid (show Blk gB 24 .u8 B w6 by rw [hg]; exact hc.out)
  rw [← hg]
  clear hc hb hb5 hg HZ HLY HB5 HK5 HX5 RA5
  go_wp2_with (refine wpList_load_nums rfl 22 (.tmp 5) rfl gx .u8 _ 22 _ rfl HX6.out Tryd.underlying22 rfl HIX.out ?_)
  refine (D3.out w6 HK6.out).mono ?_
  rintro e w7 ⟨rfl, hb⟩
  have HX7 := Lib.hid (HX6.out.below hb)
  have RA7 := Lib.hid (RA6.out.below hb)
  have RB7 := Lib.hid (RB6.out.below hb)
  have HB7 := Lib.hid (HB6.out.trans (hb.mono HB6.out.size))
  have HK7 := Lib.hid (HK6.out.below hb)
  clear hb HB6 HK6 HX6 RA6 RB6
  have HIC := Lib.hid (show (Tryd.prog.info? 24).map (·.size) = some C.length by rw [LC.out]; exact Tryd.infoE)
  have HLY := Lib.hid (show (List.replicate 16 0).length = C.length by rw [LC.out]; rfl)
  have HZ := Lib.hid (show Blk w7.heap.size 24 .u8 (List.replicate 16 0) (w7.alloc (.cells (nums .u8 (List.replicate 16 0)).toArray 24)) from heap_alloc_new w7 _)
  go_wp2_with (refine wpList_store_nums rfl 24 _ _ rfl rfl w7.heap.size .u8 _ C 24 rfl rfl HZ.out HIC.out HLY.out ?_)
  intro w8 hc hb
  have hb5 : Below w7.heap.size w7 w8 := But.toBelow ((Below.refl _ w7).alloc (Nat.le_refl _) (.cells (nums .u8 (List.replicate 16 0)).toArray 24)) hb.out (Nat.le_refl _) (by simp)
  have HX8 := Lib.hid (HX7.out.below hb5)
  have RA8 := Lib.hid (RA7.out.below hb5)
  have RB8 := Lib.hid (RB7.out.below hb5)
  have HB8 := Lib.hid (HB7.out.trans (hb5.mono HB7.out.size))
  have HK8 := Lib.hid (HK7.out.below hb5)
  obtain ⟨gC, hg⟩ : ∃ g, g = w7.heap.size := ⟨_, rfl⟩
  have RC8 := Lib.hid (show Blk gC 24 .u8 C w8 by rw [hg]; exact hc.out)
  rw [← hg]
  clear hc hb hb5 hg HZ HLY HB7 HK7 HX7 RA7 RB7
  go_upto_region 8 with (fail)
  have e1 := fun w => equal_elem A B LA.out LB.out TA.out TB.out w
  have e2 := fun w => equal_elem A C LA.out LC.out TA.out TC.out w
  have HP := Lib.hid (show i = o → (A == B) = true from fun e => by rw [HAB.out e]; exact beq_self_eq_true _)
  have HQ := Lib.hid (show c = o → (A == C) = true from fun e => by rw [HAC.out e]; exact beq_self_eq_true _)
  generalize (A == B) = p at *
  generalize (A == C) = q at *
  refine wp_region_class (fun w' => SS w8 w') (by kernel_rfl) (by kernel_rfl) (SS.start HK8.out) ?_
  by_cases hi : i = o
  · have k1 : decide (i = o) = true := by simp [hi]
    have l1 : (i == o) = true := by simp [hi]
    obtain rfl : p = true := HP.out hi
    clear hi
    by_cases hj : c = o
    · have k2 : decide (c = o) = true := by simp [hj]
      have l2 : (c == o) = true := by simp [hj]
      obtain rfl : q = true := HQ.out hj
      clear hj HP HQ HAB HAC
      all_goals
        repeat (first
          | go_big_quiet_skip
          | (refine wpQuiet_want (by rfl) (fun K hK => ?_); refine quiet_load_nums 22 (.tmp 5) rfl gx .u8 x 22 _ rfl (fun w' h => HX8.out.below h.1) Tryd.underlying22 rfl HIX.out ?_; refine hK _ ?_; clear hK K; simp only [Act.put, List.setIfInBounds_toArray, List.set_cons_zero, List.set_cons_succ])
          | (refine wpQuiet_want (by rfl) (fun K hK => ?_); refine quiet_load_nums 24 (.tmp 11) rfl gA .u8 A 24 _ rfl (fun w' h => RA8.out.below h.1) Tryd.underlying24 rfl HIA.out ?_; refine hK _ ?_; clear hK K; simp only [Act.put, List.setIfInBounds_toArray, List.set_cons_zero, List.set_cons_succ])
          | (refine wpQuiet_want (by rfl) (fun K hK => ?_); refine quiet_load_nums 24 (.tmp 12) rfl gB .u8 B 24 _ rfl (fun w' h => RB8.out.below h.1) Tryd.underlying24 rfl HIB.out ?_; refine hK _ ?_; clear hK K; simp only [Act.put, List.setIfInBounds_toArray, List.set_cons_zero, List.set_cons_succ])
          | (refine wpQuiet_want (by rfl) (fun K hK => ?_); refine quiet_load_nums 24 (.tmp 13) rfl gC .u8 C 24 _ rfl (fun w' h => RC8.out.below h.1) Tryd.underlying24 rfl HIC.out ?_; refine hK _ ?_; clear hK K; simp only [Act.put, List.setIfInBounds_toArray, List.set_cons_zero, List.set_cons_succ])
          | go_big_quiet_step ((intro hs; rfl)))
        refine wpQuiet_nil ?_
        intro w9 hs
        have HB9 := Lib.hid (HB8.out.trans (hs.1.mono HB8.out.size))
        clear hs e1 e2
        go_wp2_with fail
        go_ret
        exact ⟨rfl, HB9.out⟩
    · have k2 : decide (c = o) = false := by simp [hj]
      have l2 : (c == o) = false := by simp [hj]
      clear hj HP HQ HAB HAC
      cases q
      all_goals
        repeat (first
          | go_big_quiet_skip
          | (refine wpQuiet_want (by rfl) (fun K hK => ?_); refine quiet_load_nums 22 (.tmp 5) rfl gx .u8 x 22 _ rfl (fun w' h => HX8.out.below h.1) Tryd.underlying22 rfl HIX.out ?_; refine hK _ ?_; clear hK K; simp only [Act.put, List.setIfInBounds_toArray, List.set_cons_zero, List.set_cons_succ])
          | (refine wpQuiet_want (by rfl) (fun K hK => ?_); refine quiet_load_nums 24 (.tmp 11) rfl gA .u8 A 24 _ rfl (fun w' h => RA8.out.below h.1) Tryd.underlying24 rfl HIA.out ?_; refine hK _ ?_; clear hK K; simp only [Act.put, List.setIfInBounds_toArray, List.set_cons_zero, List.set_cons_succ])
          | (refine wpQuiet_want (by rfl) (fun K hK => ?_); refine quiet_load_nums 24 (.tmp 12) rfl gB .u8 B 24 _ rfl (fun w' h => RB8.out.below h.1) Tryd.underlying24 rfl HIB.out ?_; refine hK _ ?_; clear hK K; simp only [Act.put, List.setIfInBounds_toArray, List.set_cons_zero, List.set_cons_succ])
          | (refine wpQuiet_want (by rfl) (fun K hK => ?_); refine quiet_load_nums 24 (.tmp 13) rfl gC .u8 C 24 _ rfl (fun w' h => RC8.out.below h.1) Tryd.underlying24 rfl HIC.out ?_; refine hK _ ?_; clear hK K; simp only [Act.put, List.setIfInBounds_toArray, List.set_cons_zero, List.set_cons_succ])
          | go_big_quiet_step ((intro hs; rfl)))
        go_big_quiet_step ((intro hs; exact (N1.out _).mono fun e w' h => ⟨h.1, hs.next h.2⟩))
        repeat (first
          | go_big_quiet_skip
          | (refine wpQuiet_want (by rfl) (fun K hK => ?_); refine quiet_load_nums 22 (.tmp 5) rfl gx .u8 x 22 _ rfl (fun w' h => HX8.out.below h.1) Tryd.underlying22 rfl HIX.out ?_; refine hK _ ?_; clear hK K; simp only [Act.put, List.setIfInBounds_toArray, List.set_cons_zero, List.set_cons_succ])
          | (refine wpQuiet_want (by rfl) (fun K hK => ?_); refine quiet_load_nums 24 (.tmp 11) rfl gA .u8 A 24 _ rfl (fun w' h => RA8.out.below h.1) Tryd.underlying24 rfl HIA.out ?_; refine hK _ ?_; clear hK K; simp only [Act.put, List.setIfInBounds_toArray, List.set_cons_zero, List.set_cons_succ])
          | (refine wpQuiet_want (by rfl) (fun K hK => ?_); refine quiet_load_nums 24 (.tmp 12) rfl gB .u8 B 24 _ rfl (fun w' h => RB8.out.below h.1) Tryd.underlying24 rfl HIB.out ?_; refine hK _ ?_; clear hK K; simp only [Act.put, List.setIfInBounds_toArray, List.set_cons_zero, List.set_cons_succ])
          | (refine wpQuiet_want (by rfl) (fun K hK => ?_); refine quiet_load_nums 24 (.tmp 13) rfl gC .u8 C 24 _ rfl (fun w' h => RC8.out.below h.1) Tryd.underlying24 rfl HIC.out ?_; refine hK _ ?_; clear hK K; simp only [Act.put, List.setIfInBounds_toArray, List.set_cons_zero, List.set_cons_succ])
          | go_big_quiet_step ((intro hs; rfl)))
        go_big_quiet_step ((intro hs; exact (N3.out _).mono fun e w' h => ⟨h.1, hs.next h.2⟩))
        repeat (first
          | go_big_quiet_skip
          | (refine wpQuiet_want (by rfl) (fun K hK => ?_); refine quiet_load_nums 22 (.tmp 5) rfl gx .u8 x 22 _ rfl (fun w' h => HX8.out.below h.1) Tryd.underlying22 rfl HIX.out ?_; refine hK _ ?_; clear hK K; simp only [Act.put, List.setIfInBounds_toArray, List.set_cons_zero, List.set_cons_succ])
          | (refine wpQuiet_want (by rfl) (fun K hK => ?_); refine quiet_load_nums 24 (.tmp 11) rfl gA .u8 A 24 _ rfl (fun w' h => RA8.out.below h.1) Tryd.underlying24 rfl HIA.out ?_; refine hK _ ?_; clear hK K; simp only [Act.put, List.setIfInBounds_toArray, List.set_cons_zero, List.set_cons_succ])
          | (refine wpQuiet_want (by rfl) (fun K hK => ?_); refine quiet_load_nums 24 (.tmp 12) rfl gB .u8 B 24 _ rfl (fun w' h => RB8.out.below h.1) Tryd.underlying24 rfl HIB.out ?_; refine hK _ ?_; clear hK K; simp only [Act.put, List.setIfInBounds_toArray, List.set_cons_zero, List.set_cons_succ])
          | (refine wpQuiet_want (by rfl) (fun K hK => ?_); refine quiet_load_nums 24 (.tmp 13) rfl gC .u8 C 24 _ rfl (fun w' h => RC8.out.below h.1) Tryd.underlying24 rfl HIC.out ?_; refine hK _ ?_; clear hK K; simp only [Act.put, List.setIfInBounds_toArray, List.set_cons_zero, List.set_cons_succ])
          | go_big_quiet_step ((intro hs; rfl)))
        refine wpQuiet_nil ?_
        intro w9 hs
        have HB9 := Lib.hid (HB8.out.trans (hs.1.mono HB8.out.size))
        clear hs e1 e2
        go_wp2_with fail
        go_ret
        exact ⟨rfl, HB9.out⟩
  · have k1 : decide (i = o) = false := by simp [hi]
    have l1 : (i == o) = false := by simp [hi]
    clear hi
    by_cases hj : c = o
    · have k2 : decide (c = o) = true := by simp [hj]
      have l2 : (c == o) = true := by simp [hj]
      obtain rfl : q = true := HQ.out hj
      clear hj HP HQ HAB HAC
      cases p
      all_goals
        repeat (first
          | go_big_quiet_skip
          | (refine wpQuiet_want (by rfl) (fun K hK => ?_); refine quiet_load_nums 22 (.tmp 5) rfl gx .u8 x 22 _ rfl (fun w' h => HX8.out.below h.1) Tryd.underlying22 rfl HIX.out ?_; refine hK _ ?_; clear hK K; simp only [Act.put, List.setIfInBounds_toArray, List.set_cons_zero, List.set_cons_succ])
          | (refine wpQuiet_want (by rfl) (fun K hK => ?_); refine quiet_load_nums 24 (.tmp 11) rfl gA .u8 A 24 _ rfl (fun w' h => RA8.out.below h.1) Tryd.underlying24 rfl HIA.out ?_; refine hK _ ?_; clear hK K; simp only [Act.put, List.setIfInBounds_toArray, List.set_cons_zero, List.set_cons_succ])
          | (refine wpQuiet_want (by rfl) (fun K hK => ?_); refine quiet_load_nums 24 (.tmp 12) rfl gB .u8 B 24 _ rfl (fun w' h => RB8.out.below h.1) Tryd.underlying24 rfl HIB.out ?_; refine hK _ ?_; clear hK K; simp only [Act.put, List.setIfInBounds_toArray, List.set_cons_zero, List.set_cons_succ])
          | (refine wpQuiet_want (by rfl) (fun K hK => ?_); refine quiet_load_nums 24 (.tmp 13) rfl gC .u8 C 24 _ rfl (fun w' h => RC8.out.below h.1) Tryd.underlying24 rfl HIC.out ?_; refine hK _ ?_; clear hK K; simp only [Act.put, List.setIfInBounds_toArray, List.set_cons_zero, List.set_cons_succ])
          | go_big_quiet_step ((intro hs; rfl)))
        go_big_quiet_step ((intro hs; exact (N1.out _).mono fun e w' h => ⟨h.1, hs.next h.2⟩))
        repeat (first
          | go_big_quiet_skip
          | (refine wpQuiet_want (by rfl) (fun K hK => ?_); refine quiet_load_nums 22 (.tmp 5) rfl gx .u8 x 22 _ rfl (fun w' h => HX8.out.below h.1) Tryd.underlying22 rfl HIX.out ?_; refine hK _ ?_; clear hK K; simp only [Act.put, List.setIfInBounds_toArray, List.set_cons_zero, List.set_cons_succ])
          | (refine wpQuiet_want (by rfl) (fun K hK => ?_); refine quiet_load_nums 24 (.tmp 11) rfl gA .u8 A 24 _ rfl (fun w' h => RA8.out.below h.1) Tryd.underlying24 rfl HIA.out ?_; refine hK _ ?_; clear hK K; simp only [Act.put, List.setIfInBounds_toArray, List.set_cons_zero, List.set_cons_succ])
          | (refine wpQuiet_want (by rfl) (fun K hK => ?_); refine quiet_load_nums 24 (.tmp 12) rfl gB .u8 B 24 _ rfl (fun w' h => RB8.out.below h.1) Tryd.underlying24 rfl HIB.out ?_; refine hK _ ?_; clear hK K; simp only [Act.put, List.setIfInBounds_toArray, List.set_cons_zero, List.set_cons_succ])
          | (refine wpQuiet_want (by rfl) (fun K hK => ?_); refine quiet_load_nums 24 (.tmp 13) rfl gC .u8 C 24 _ rfl (fun w' h => RC8.out.below h.1) Tryd.underlying24 rfl HIC.out ?_; refine hK _ ?_; clear hK K; simp only [Act.put, List.setIfInBounds_toArray, List.set_cons_zero, List.set_cons_succ])
          | go_big_quiet_step ((intro hs; rfl)))
        go_big_quiet_step ((intro hs; exact (N2.out _).mono fun e w' h => ⟨h.1, hs.next h.2⟩))
        repeat (first
          | go_big_quiet_skip
          | (refine wpQuiet_want (by rfl) (fun K hK => ?_); refine quiet_load_nums 22 (.tmp 5) rfl gx .u8 x 22 _ rfl (fun w' h => HX8.out.below h.1) Tryd.underlying22 rfl HIX.out ?_; refine hK _ ?_; clear hK K; simp only [Act.put, List.setIfInBounds_toArray, List.set_cons_zero, List.set_cons_succ])
          | (refine wpQuiet_want (by rfl) (fun K hK => ?_); refine quiet_load_nums 24 (.tmp 11) rfl gA .u8 A 24 _ rfl (fun w' h => RA8.out.below h.1) Tryd.underlying24 rfl HIA.out ?_; refine hK _ ?_; clear hK K; simp only [Act.put, List.setIfInBounds_toArray, List.set_cons_zero, List.set_cons_succ])
          | (refine wpQuiet_want (by rfl) (fun K hK => ?_); refine quiet_load_nums 24 (.tmp 12) rfl gB .u8 B 24 _ rfl (fun w' h => RB8.out.below h.1) Tryd.underlying24 rfl HIB.out ?_; refine hK _ ?_; clear hK K; simp only [Act.put, List.setIfInBounds_toArray, List.set_cons_zero, List.set_cons_succ])
          | (refine wpQuiet_want (by rfl) (fun K hK => ?_); refine quiet_load_nums 24 (.tmp 13) rfl gC .u8 C 24 _ rfl (fun w' h => RC8.out.below h.1) Tryd.underlying24 rfl HIC.out ?_; refine hK _ ?_; clear hK K; simp only [Act.put, List.setIfInBounds_toArray, List.set_cons_zero, List.set_cons_succ])
          | go_big_quiet_step ((intro hs; rfl)))
        refine wpQuiet_nil ?_
        intro w9 hs
        have HB9 := Lib.hid (HB8.out.trans (hs.1.mono HB8.out.size))
        clear hs e1 e2
        go_wp2_with fail
        go_ret
        exact ⟨rfl, HB9.out⟩
    · have k2 : decide (c = o) = false := by simp [hj]
      have l2 : (c == o) = false := by simp [hj]
      clear hj HP HQ HAB HAC
      cases p <;> cases q
      all_goals
        repeat (first
          | go_big_quiet_skip
          | (refine wpQuiet_want (by rfl) (fun K hK => ?_); refine quiet_load_nums 22 (.tmp 5) rfl gx .u8 x 22 _ rfl (fun w' h => HX8.out.below h.1) Tryd.underlying22 rfl HIX.out ?_; refine hK _ ?_; clear hK K; simp only [Act.put, List.setIfInBounds_toArray, List.set_cons_zero, List.set_cons_succ])
          | (refine wpQuiet_want (by rfl) (fun K hK => ?_); refine quiet_load_nums 24 (.tmp 11) rfl gA .u8 A 24 _ rfl (fun w' h => RA8.out.below h.1) Tryd.underlying24 rfl HIA.out ?_; refine hK _ ?_; clear hK K; simp only [Act.put, List.setIfInBounds_toArray, List.set_cons_zero, List.set_cons_succ])
          | (refine wpQuiet_want (by rfl) (fun K hK => ?_); refine quiet_load_nums 24 (.tmp 12) rfl gB .u8 B 24 _ rfl (fun w' h => RB8.out.below h.1) Tryd.underlying24 rfl HIB.out ?_; refine hK _ ?_; clear hK K; simp only [Act.put, List.setIfInBounds_toArray, List.set_cons_zero, List.set_cons_succ])
          | (refine wpQuiet_want (by rfl) (fun K hK => ?_); refine quiet_load_nums 24 (.tmp 13) rfl gC .u8 C 24 _ rfl (fun w' h => RC8.out.below h.1) Tryd.underlying24 rfl HIC.out ?_; refine hK _ ?_; clear hK K; simp only [Act.put, List.setIfInBounds_toArray, List.set_cons_zero, List.set_cons_succ])
          | go_big_quiet_step ((intro hs; rfl)))
        go_big_quiet_step ((intro hs; exact (N1.out _).mono fun e w' h => ⟨h.1, hs.next h.2⟩))
        repeat (first
          | go_big_quiet_skip
          | (refine wpQuiet_want (by rfl) (fun K hK => ?_); refine quiet_load_nums 22 (.tmp 5) rfl gx .u8 x 22 _ rfl (fun w' h => HX8.out.below h.1) Tryd.underlying22 rfl HIX.out ?_; refine hK _ ?_; clear hK K; simp only [Act.put, List.setIfInBounds_toArray, List.set_cons_zero, List.set_cons_succ])
          | (refine wpQuiet_want (by rfl) (fun K hK => ?_); refine quiet_load_nums 24 (.tmp 11) rfl gA .u8 A 24 _ rfl (fun w' h => RA8.out.below h.1) Tryd.underlying24 rfl HIA.out ?_; refine hK _ ?_; clear hK K; simp only [Act.put, List.setIfInBounds_toArray, List.set_cons_zero, List.set_cons_succ])
          | (refine wpQuiet_want (by rfl) (fun K hK => ?_); refine quiet_load_nums 24 (.tmp 12) rfl gB .u8 B 24 _ rfl (fun w' h => RB8.out.below h.1) Tryd.underlying24 rfl HIB.out ?_; refine hK _ ?_; clear hK K; simp only [Act.put, List.setIfInBounds_toArray, List.set_cons_zero, List.set_cons_succ])
          | (refine wpQuiet_want (by rfl) (fun K hK => ?_); refine quiet_load_nums 24 (.tmp 13) rfl gC .u8 C 24 _ rfl (fun w' h => RC8.out.below h.1) Tryd.underlying24 rfl HIC.out ?_; refine hK _ ?_; clear hK K; simp only [Act.put, List.setIfInBounds_toArray, List.set_cons_zero, List.set_cons_succ])
          | go_big_quiet_step ((intro hs; rfl)))
        go_big_quiet_step ((intro hs; exact (N2.out _).mono fun e w' h => ⟨h.1, hs.next h.2⟩))
        repeat (first
          | go_big_quiet_skip
          | (refine wpQuiet_want (by rfl) (fun K hK => ?_); refine quiet_load_nums 22 (.tmp 5) rfl gx .u8 x 22 _ rfl (fun w' h => HX8.out.below h.1) Tryd.underlying22 rfl HIX.out ?_; refine hK _ ?_; clear hK K; simp only [Act.put, List.setIfInBounds_toArray, List.set_cons_zero, List.set_cons_succ])
          | (refine wpQuiet_want (by rfl) (fun K hK => ?_); refine quiet_load_nums 24 (.tmp 11) rfl gA .u8 A 24 _ rfl (fun w' h => RA8.out.below h.1) Tryd.underlying24 rfl HIA.out ?_; refine hK _ ?_; clear hK K; simp only [Act.put, List.setIfInBounds_toArray, List.set_cons_zero, List.set_cons_succ])
          | (refine wpQuiet_want (by rfl) (fun K hK => ?_); refine quiet_load_nums 24 (.tmp 12) rfl gB .u8 B 24 _ rfl (fun w' h => RB8.out.below h.1) Tryd.underlying24 rfl HIB.out ?_; refine hK _ ?_; clear hK K; simp only [Act.put, List.setIfInBounds_toArray, List.set_cons_zero, List.set_cons_succ])
          | (refine wpQuiet_want (by rfl) (fun K hK => ?_); refine quiet_load_nums 24 (.tmp 13) rfl gC .u8 C 24 _ rfl (fun w' h => RC8.out.below h.1) Tryd.underlying24 rfl HIC.out ?_; refine hK _ ?_; clear hK K; simp only [Act.put, List.setIfInBounds_toArray, List.set_cons_zero, List.set_cons_succ])
          | go_big_quiet_step ((intro hs; rfl)))
        go_big_quiet_step ((intro hs; exact (N1.out _).mono fun e w' h => ⟨h.1, hs.next h.2⟩))
        repeat (first
          | go_big_quiet_skip
          | (refine wpQuiet_want (by rfl) (fun K hK => ?_); refine quiet_load_nums 22 (.tmp 5) rfl gx .u8 x 22 _ rfl (fun w' h => HX8.out.below h.1) Tryd.underlying22 rfl HIX.out ?_; refine hK _ ?_; clear hK K; simp only [Act.put, List.setIfInBounds_toArray, List.set_cons_zero, List.set_cons_succ])
          | (refine wpQuiet_want (by rfl) (fun K hK => ?_); refine quiet_load_nums 24 (.tmp 11) rfl gA .u8 A 24 _ rfl (fun w' h => RA8.out.below h.1) Tryd.underlying24 rfl HIA.out ?_; refine hK _ ?_; clear hK K; simp only [Act.put, List.setIfInBounds_toArray, List.set_cons_zero, List.set_cons_succ])
          | (refine wpQuiet_want (by rfl) (fun K hK => ?_); refine quiet_load_nums 24 (.tmp 12) rfl gB .u8 B 24 _ rfl (fun w' h => RB8.out.below h.1) Tryd.underlying24 rfl HIB.out ?_; refine hK _ ?_; clear hK K; simp only [Act.put, List.setIfInBounds_toArray, List.set_cons_zero, List.set_cons_succ])
          | (refine wpQuiet_want (by rfl) (fun K hK => ?_); refine quiet_load_nums 24 (.tmp 13) rfl gC .u8 C 24 _ rfl (fun w' h => RC8.out.below h.1) Tryd.underlying24 rfl HIC.out ?_; refine hK _ ?_; clear hK K; simp only [Act.put, List.setIfInBounds_toArray, List.set_cons_zero, List.set_cons_succ])
          | go_big_quiet_step ((intro hs; rfl)))
        go_big_quiet_step ((intro hs; exact (N3.out _).mono fun e w' h => ⟨h.1, hs.next h.2⟩))
        repeat (first
          | go_big_quiet_skip
          | (refine wpQuiet_want (by rfl) (fun K hK => ?_); refine quiet_load_nums 22 (.tmp 5) rfl gx .u8 x 22 _ rfl (fun w' h => HX8.out.below h.1) Tryd.underlying22 rfl HIX.out ?_; refine hK _ ?_; clear hK K; simp only [Act.put, List.setIfInBounds_toArray, List.set_cons_zero, List.set_cons_succ])
          | (refine wpQuiet_want (by rfl) (fun K hK => ?_); refine quiet_load_nums 24 (.tmp 11) rfl gA .u8 A 24 _ rfl (fun w' h => RA8.out.below h.1) Tryd.underlying24 rfl HIA.out ?_; refine hK _ ?_; clear hK K; simp only [Act.put, List.setIfInBounds_toArray, List.set_cons_zero, List.set_cons_succ])
          | (refine wpQuiet_want (by rfl) (fun K hK => ?_); refine quiet_load_nums 24 (.tmp 12) rfl gB .u8 B 24 _ rfl (fun w' h => RB8.out.below h.1) Tryd.underlying24 rfl HIB.out ?_; refine hK _ ?_; clear hK K; simp only [Act.put, List.setIfInBounds_toArray, List.set_cons_zero, List.set_cons_succ])
          | (refine wpQuiet_want (by rfl) (fun K hK => ?_); refine quiet_load_nums 24 (.tmp 13) rfl gC .u8 C 24 _ rfl (fun w' h => RC8.out.below h.1) Tryd.underlying24 rfl HIC.out ?_; refine hK _ ?_; clear hK K; simp only [Act.put, List.setIfInBounds_toArray, List.set_cons_zero, List.set_cons_succ])
          | go_big_quiet_step ((intro hs; rfl)))
        refine wpQuiet_nil ?_
        intro w9 hs
        have HB9 := Lib.hid (HB8.out.trans (hs.1.mono HB8.out.size))
        clear hs e1 e2
        go_wp2_with fail
        go_ret
        exact ⟨rfl, HB9.out⟩
end Go.Proofs.YtjgjgmjdoihmiaaDoor.stepsPlaces
