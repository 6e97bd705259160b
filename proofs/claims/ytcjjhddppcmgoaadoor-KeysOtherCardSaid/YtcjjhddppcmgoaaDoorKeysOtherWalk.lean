/-
  The walk of the law KeysOther.
-/
import Derived.Test.YtcjjhddppcmgoaaDoorAlive6
import Derived.Test.YtcjjhddppcmgoaaDoorOwnT
namespace Go.Proofs.YtcjjhddppcmgoaaDoor.keysOther
open Go.RowKit Go.BigFrame

set_option maxHeartbeats 4000000 in
set_option maxRecDepth 100000 in
theorem walk (w : World) (hk : KAt w) (seed : List UInt8) (_hs : seed.length ≤ 140737488351232) (i : Int) (_wi : (Lit.int .i64 i).wf = true) (t : List UInt8) (_ht : t.length ≤ 140737488351232) (u : List UInt8) (_hu : u.length ≤ 140737488351232) (a : Int) (_wa : (Lit.int .i64 a).wf = true) (c : Int) (wc : (Lit.int .u8 c).wf = true) :
    Calls Tryd.prog 6 #[.string ⟨seed.toArray⟩, .int .i64 i, .string ⟨t.toArray⟩, .string ⟨u.toArray⟩, .int .i64 a, .int .u8 c] w fun e w' => e = .returned (.bool true) ∧ Below w.heap.size w w' := by
  have HK := Lib.hid hk
  obtain ⟨cn, hcn, hcb⟩ : ∃ m : Nat, c = m ∧ m < 256 := by
    simp only [Lit.wf, Bool.and_eq_true, decide_eq_true_eq] at wc
    have h0 : (0 : Int) ≤ c := wc.1
    have h1 : c ≤ (255 : Int) := wc.2
    exact ⟨c.toNat, by omega, by omega⟩
  subst hcn
  clear hk wc
  go_enter Tryd.func6, Tryd.ntmps6
  go_wp2_with fail
  refine (alive6_any w HK.out).mono ?_
  rintro e w1 ⟨rfl, hb1⟩
  have HB1 := Lib.hid hb1
  have HK1 := Lib.hid (HK.out.below hb1)
  clear hb1 HK
  by_cases c1 : 64 < seed.length
  · have c1' : (64 : Int) < seed.length := by omega
    go_wp2_with fail
    go_ret
    exact ⟨rfl, HB1.out⟩
  have c1' : ¬ (64 : Int) < seed.length := by omega
  by_cases c2 : 512 < t.length + u.length
  · have c2' : (512 : Int) < (t.length : Int) + (u.length : Int) := by omega
    go_wp2_with fail
    go_ret
    exact ⟨rfl, HB1.out⟩
  have c2' : ¬ (512 : Int) < (t.length : Int) + (u.length : Int) := by omega
  by_cases c3 : i < 0
  · go_wp2_with fail
    go_ret
    exact ⟨rfl, HB1.out⟩
  by_cases c4 : 3 < i
  · go_wp2_with fail
    go_ret
    exact ⟨rfl, HB1.out⟩
  obtain ⟨j, rfl⟩ : ∃ j : Nat, i = j := ⟨i.toNat, by omega⟩
  have hj : j < 2 ^ 2 := by omega
  have HT := Lib.hid (show t.length ≤ 1000000 by omega)
  have HU := Lib.hid (show u.length ≤ 1000000 by omega)
  have HSG := Lib.hid (fun v w (k : KeysIs v seed 2 w) hk => dev_sign6 v seed 2 j t w k hj HT.out hk)
  have HND := Lib.hid (fun v w (k : KeysIs v seed 2 w) => dev_node v seed 2 w k)
  have hlen := signK_len seed hj t
  have hr1 := (rootK_ok seed 2).1
  have hr2 := (rootK_ok seed 2).2
  obtain ⟨S, hS⟩ : ∃ S, signK seed 2 j t = S := ⟨_, rfl⟩
  obtain ⟨r, hr⟩ : ∃ r, rootK seed 2 = r := ⟨_, rfl⟩
  rw [hS] at HSG hlen
  rw [hr] at HND hr1 hr2
  have HSL := Shut.mk (show S.length = 592 from hlen)
  have HR := Lib.hid hr1
  have LR := Lib.hid hr2
  clear hS hr hlen hr1 hr2
  go_wp2_with fail
  refine (dev_new seed 2 w1 (by omega) (by decide) (by decide) HK1.out).mono ?_
  rintro e w2 ⟨⟨v, rfl, hv⟩, hb2⟩
  have HV2 := Lib.hid hv
  have HB2 := Lib.hid (HB1.out.trans (hb2.mono HB1.out.size))
  have HK2 := Lib.hid (HK1.out.below hb2)
  clear hv hb2 HB1 HK1
  go_wp2_with fail
  refine (HSG.out v w2 HV2.out HK2.out).mono ?_
  rintro e w3 ⟨rfl, hb3⟩
  have HV3 := Lib.hid (HV2.out.below hb3)
  have HB3 := Lib.hid (HB2.out.trans (hb3.mono HB2.out.size))
  have HK3 := Lib.hid (HK2.out.below hb3)
  clear hb3 HV2 HB2 HK2 HSG
  obtain ⟨gb, cb, w4, hconv, ho4, hb4⟩ := conv_bytes S w3 (by rw [HSL.out]; decide)
  have HO4 := Lib.hid ho4
  have HW4 := Lib.hid hb4
  have hgb := ho4.lt gb rfl
  have HGB := Lib.hid (show w.heap.size ≤ gb from Nat.le_trans HB3.out.size hgb.1)
  have HGW := Lib.hid (show w3.heap.size ≤ gb from hgb.1)
  clear ho4 hb4 hgb
  have hpos : 0 < S.length := by rw [HSL.out]; decide
  have hS6 : S.length ≤ 1000000 := by rw [HSL.out]; decide
  obtain ⟨q, hq, hqe⟩ := idx_some a hpos (by omega)
  have hq2 : (q : Int) < (S.length : Int) := by omega
  have hql : q < (byteNs S).length := by rw [byteNs_len]; exact hq
  have hcq := HO4.out.cells rfl q hql
  have hfq := HO4.out.frozen hql
  have hb2 : (byteNs S)[q] < 256 := byteNs_lt S _ (List.getElem_mem hql)
  have hxor := bits_xor_u8 hb2 hcb
  have HOS := Lib.hid (HO4.out.set hql ((byteNs S)[q] ^^^ cn))
  have HTL := Lib.hid (set_lt (byteNs_lt S) q (xor_lt_256 hb2 hcb))
  have hTBl : ((byteNs S).set q ((byteNs S)[q] ^^^ cn)).length = S.length := by rw [List.length_set, byteNs_len]
  obtain ⟨b, hbe⟩ : ∃ b, (byteNs S)[q] = b := ⟨_, rfl⟩
  rw [hbe] at hcq hxor HOS HTL hTBl
  obtain ⟨TB, hTB⟩ : ∃ TB, (byteNs S).set q (b ^^^ cn) = TB := ⟨_, rfl⟩
  rw [hTB] at HOS HTL hTBl
  have HTB := Shut.mk hTBl
  clear hbe hTB hb2 hql hTBl
  go_upto_region 11 with (fail)
  obtain ⟨w5, hw5⟩ : ∃ x, x = w4.setCell ⟨gb, q, none⟩ (.int .u8 ((b ^^^ cn : Nat) : Int)) := ⟨_, rfl⟩
  rw [← hw5] at HOS ⊢
  have hW5 : Below w3.heap.size w3 w5 := by rw [hw5]; exact below_set HW4.out HGW.out _ _
  have HO5 := Lib.hid HOS.out
  have HV5 := Lib.hid (HV3.out.below hW5)
  have HB5 := Lib.hid (HB3.out.trans (hW5.mono HB3.out.size))
  have HK5 := Lib.hid (HK3.out.below hW5)
  clear hw5 hW5 HOS HO4 HW4 HV3 HB3 HK3 hcq hfq hxor hqe hconv
  go_wp2_with fail
  refine (HND.out v w5 HV5.out).mono ?_
  rintro e w6 ⟨rfl, hb6⟩
  have HO6 := Lib.hid (HO5.out.below hb6)
  have HB6 := Lib.hid (HB5.out.trans (hb6.mono HB5.out.size))
  have HK6 := Lib.hid (HK5.out.below hb6)
  clear hb6 HO5 HV5 HB5 HK5 HND
  have hZ17 : (nodeV (List.replicate 16 0) 0).size = 17 := rfl
  have hN17 : ∀ x : List Nat, x.length = 16 → (nodeV x ((2 : Nat) : Int)).size = 17 := fun x hx => by rw [nodeV, List.size_toArray, List.length_append, nums_len, hx]; rfl
  have HIN := Lib.hid (show (Tryd.prog.info? 33).map (·.size) = some (nodeV r ((2 : Nat) : Int)).size by rw [hN17 r HR.out]; kernel_rfl)
  have HLN := Lib.hid (show (nodeV (List.replicate 16 0) 0).size = (nodeV r ((2 : Nat) : Int)).size by rw [hN17 r HR.out, hZ17])
  have HON := Lib.hid (show (nodeV r ((2 : Nat) : Int)).all (·.oneCell') = true from all_oneCell_toArray (fun u hu => by
    rcases List.mem_append.1 hu with hu | hu
    · exact nums_one _ _ u hu
    · obtain rfl := List.mem_singleton.1 hu; rfl))
  clear hZ17
  have hX6 : Below w6.heap.size w6 (w6.alloc (.cells (nodeV (List.replicate 16 0) 0) 33)) := (Below.refl _ _).alloc (Nat.le_refl _) _
  have HX6 := Lib.hid (show Cells w6.heap.size 33 (nodeV (List.replicate 16 0) 0) (w6.alloc (.cells (nodeV (List.replicate 16 0) 0) 33)) from heap_alloc_new w6 _)
  go_wp2_with (refine wpList_store_cells rfl 33 _ _ rfl rfl w6.heap.size _ (nodeV r ((2 : Nat) : Int)) 33 rfl rfl HX6.out HIN.out HLN.out HON.out ?_)
  intro w7 hc hb
  have hb7 : Below w6.heap.size w6 w7 := But.toBelow hX6 hb.out (Nat.le_refl _) (by simp)
  have HN7 := Lib.hid (show Cells w6.heap.size 33 (nodeV r ((2 : Nat) : Int)) w7 from hc.out)
  have HO7 := Lib.hid (HO6.out.below hb7)
  have HB7 := Lib.hid (HB6.out.trans (hb7.mono HB6.out.size))
  have HK7 := Lib.hid (HK6.out.below hb7)
  have HGN := Lib.hid (show w.heap.size ≤ w6.heap.size from HB6.out.size)
  obtain ⟨gn, hgn⟩ : ∃ g, g = w6.heap.size := ⟨_, rfl⟩
  rw [← hgn] at HN7 HGN ⊢
  clear hc hb hb7 hX6 HX6 HO6 HB6 HK6 hgn
  have hX7 : Below w7.heap.size w7 (w7.alloc (.cells (nodeV (List.replicate 16 0) 0) 33)) := (Below.refl _ _).alloc (Nat.le_refl _) _
  have HX7 := Lib.hid (show Cells w7.heap.size 33 (nodeV (List.replicate 16 0) 0) (w7.alloc (.cells (nodeV (List.replicate 16 0) 0) 33)) from heap_alloc_new w7 _)
  go_wp2_with (first
    | (refine wpList_load_cells rfl 33 _ rfl gn _ 33 _ rfl HN7.out Tryd.underlying33 rfl HIN.out ?_)
    | (refine wpList_store_cells rfl 33 _ _ rfl rfl w7.heap.size _ (nodeV r ((2 : Nat) : Int)) 33 rfl rfl HX7.out HIN.out HLN.out HON.out ?_))
  intro w8 hc hb
  have hb8 : Below w7.heap.size w7 w8 := But.toBelow hX7 hb.out (Nat.le_refl _) (by simp)
  have hm8 : Cells w7.heap.size 33 (nodeV r ((2 : Nat) : Int)) w8 := hc.out
  have HW8 := Lib.hid hb8
  have hgo := (HO7.out.lt gb rfl).2
  have hgn := HN7.out.lt
  obtain ⟨gm, hgm⟩ : ∃ g, g = w7.heap.size := ⟨_, rfl⟩
  have HGM := Lib.hid (show w7.heap.size ≤ gm by omega)
  have HNM := Lib.hid (show gn ≠ gm by omega)
  have HOM := Lib.hid (show gb ≠ gm by omega)
  rw [← hgm] at hm8 ⊢
  have HM8 := Lib.hid hm8
  obtain ⟨q3, hq3, hqe3⟩ := idx_some a (n := 16) (by decide) (by decide)
  rw [show ((16 : Nat) : Int) = 16 from rfl] at hqe3
  have hq4 : (q3 : Int) < 16 := by omega
  have hq5 : q3 < r.length := by rw [HR.out]; exact hq3
  have hcm := node_byte hm8 hq5
  have hfm : w8.frozen? ⟨gm, q3, none⟩ = false := frozen_of_row w8 gm q3 _ _ hm8
  have hb4 : r.getD q3 0 < 256 := getD_lt LR.out (by decide) q3
  have hxor3 := bits_xor_u8 hb4 hcb
  have HMS := Lib.hid (node_set hm8 hq5 (r.getD q3 0 ^^^ cn))
  have LM := Lib.hid (set_lt LR.out q3 (xor_lt_256 hb4 hcb))
  have hml : (r.set q3 (r.getD q3 0 ^^^ cn)).length = 16 := by rw [List.length_set]; exact HR.out
  obtain ⟨b3, hb3e⟩ : ∃ b, r.getD q3 0 = b := ⟨_, rfl⟩
  rw [hb3e] at hcm hxor3 HMS LM hml
  obtain ⟨mr, hmr⟩ : ∃ m, r.set q3 (b3 ^^^ cn) = m := ⟨_, rfl⟩
  rw [hmr] at HMS LM hml
  have HMR := Lib.hid hml
  clear hc hb hb8 hX7 HX7 hgo hgn hgm hm8 hb4 hb3e hmr hml HM8 hq5
  obtain ⟨w9, hw9⟩ : ∃ x, x = w8.setCell ⟨gm, q3, none⟩ (.int .u8 ((b3 ^^^ cn : Nat) : Int)) := ⟨_, rfl⟩
  have HM9 := Lib.hid HMS.out
  rw [← hw9] at HM9
  have hW9 : Below w7.heap.size w7 w9 := by rw [hw9]; exact below_set HW8.out HGM.out _ _
  have HN9 := Lib.hid (HN7.out.below hW9)
  have HO9 := Lib.hid (HO7.out.below hW9)
  have HB9 := Lib.hid (HB7.out.trans (hW9.mono HB7.out.size))
  have HK9 := Lib.hid (HK7.out.below hW9)
  have HIM := Lib.hid (show (Tryd.prog.info? 33).map (·.size) = some (nodeV mr ((2 : Nat) : Int)).size by rw [hN17 mr HMR.out]; kernel_rfl)
  have hTSl : (txt TB).length = S.length := by rw [txt_len, HTB.out]
  have HCV0 := Lib.hid (fun w' (hb : Below w9.heap.size w9 w') => by
    have h := HO9.out.below hb
    rw [← HTB.out] at h
    have h2 := conv_ownT HTL.out h
    rw [HTB.out] at h2
    exact h2)
  clear hW9 HMS HW8 HN7 HO7 HB7 HK7
  go_upto_region 14 with (fail)
  rw [← hw9]
  clear hw9 hcm hfm hxor3 hqe3
  go_wp2_with fail
  go_loopw [20] (fun n wq => ∃ k : Nat, k ≤ 4 ∧ n = .int .i64 k ∧ Below w9.heap.size w9 wq) (fun n _ => 4 - (intOf n).toNat)
  case atStart => exact ⟨0, by omega, rfl, Below.refl _ _⟩
  case round =>
    obtain ⟨k, hk, rfl, hb⟩ := hrel
    have HB := Lib.hid hb
    have HNr := Lib.hid (HN9.out.below hb)
    have HMr := Lib.hid (HM9.out.below hb)
    have HKr := Lib.hid (HK9.out.below hb)
    have HCV := Lib.hid (fun w' (h : Below wr.heap.size wr w') => HCV0.out w' (hb.trans (h.mono hb.size)))
    by_cases hlk : k < 4
    · have hlk2 : (k : Int) < 4 := by omega
      have hst : True := trivial
      have hD1 := fun w hk => dev_verify6 r ((2 : Nat) : Int) (k : Int) u S w HR.out LR.out (by decide) (by decide) (by omega) (by omega) HU.out hS6 hk
      have hF1 := fun w => ref_verify6 r ((2 : Nat) : Int) (k : Int) u S w HR.out LR.out (by decide) (by decide) (by omega) (by omega) HU.out hS6
      obtain ⟨V1, hV1⟩ : ∃ V, verK r ((2 : Nat) : Int) (k : Int) u S = V := ⟨_, rfl⟩
      rw [hV1] at hD1 hF1
      have hn1 : (V1 != V1) = false := bne_self_eq_false V1
      have hD2 := fun w hk => dev_verify6 r ((2 : Nat) : Int) (k : Int) t (txt TB) w HR.out LR.out (by decide) (by decide) (by omega) (by omega) HT.out (by omega) hk
      have hF2 := fun w => ref_verify6 r ((2 : Nat) : Int) (k : Int) t (txt TB) w HR.out LR.out (by decide) (by decide) (by omega) (by omega) HT.out (by omega)
      obtain ⟨V2, hV2⟩ : ∃ V, verK r ((2 : Nat) : Int) (k : Int) t (txt TB) = V := ⟨_, rfl⟩
      rw [hV2] at hD2 hF2
      have hn2 : (V2 != V2) = false := bne_self_eq_false V2
      have hD3 := fun w hk => dev_verify6 mr ((2 : Nat) : Int) (k : Int) t S w HMR.out LM.out (by decide) (by decide) (by omega) (by omega) HT.out hS6 hk
      have hF3 := fun w => ref_verify6 mr ((2 : Nat) : Int) (k : Int) t S w HMR.out LM.out (by decide) (by decide) (by omega) (by omega) HT.out hS6
      obtain ⟨V3, hV3⟩ : ∃ V, verK mr ((2 : Nat) : Int) (k : Int) t S = V := ⟨_, rfl⟩
      rw [hV3] at hD3 hF3
      have hn3 : (V3 != V3) = false := bne_self_eq_false V3
      obtain ⟨N, hN⟩ : ∃ N, nodeV r ((2 : Nat) : Int) = N := ⟨_, rfl⟩
      obtain ⟨NM, hNM⟩ : ∃ N, nodeV mr ((2 : Nat) : Int) = N := ⟨_, rfl⟩
      obtain ⟨TS, hTS⟩ : ∃ T, txt TB = T := ⟨_, rfl⟩
      rw [hTS] at hD2 hF2 HCV
      rw [hN] at hD1 hF1 hD2 hF2 HNr HIN
      rw [hNM] at hD3 hF3 HMr HIM
      have HD1 := Lib.hid hD1
      have HD2 := Lib.hid hD2
      have HD3 := Lib.hid hD3
      have HF1 := Lib.hid hF1
      have HF2 := Lib.hid hF2
      have HF3 := Lib.hid hF3
      clear hD1 hD2 hD3 hF1 hF2 hF3 hV1 hV2 hV3 hN hNM hTS hst hb hN17 HON HLN
      go_upto_region 17 with (fail)
      refine wp_region_class (fun w' => SS wr w') (by kernel_rfl) (by kernel_rfl) (SS.start HKr.out) ?_
      repeat (first
        | go_big_quiet_skip
        | (go_big_quiet_want; refine quiet_load_cells 33 _ rfl gn N 33 _ rfl (fun w' h => HNr.out.below h.1) Tryd.underlying33 rfl HIN.out ?_; go_big_quiet_on; simp only [Act.put, List.setIfInBounds_toArray, List.set_cons_zero, List.set_cons_succ])
        | (go_big_quiet_want; refine quiet_load_cells 33 _ rfl gm NM 33 _ rfl (fun w' h => HMr.out.below h.1) Tryd.underlying33 rfl HIM.out ?_; go_big_quiet_on; simp only [Act.put, List.setIfInBounds_toArray, List.set_cons_zero, List.set_cons_succ])
        | (go_big_quiet_want; refine quiet_convert6 44 9 _ rfl (.slice (some ⟨gb, 0, none⟩) S.length cb) (.string ⟨TS.toArray⟩) rfl (fun w' h => HCV.out w' h.1) ?_; go_big_quiet_on; simp only [Act.put, List.setIfInBounds_toArray, List.set_cons_zero, List.set_cons_succ])
        | go_big_quiet_step ((intro hs'; rfl)))
      go_big_quiet_step ((intro hs'; exact (HD1.out _ hs'.2).mono fun e w' h => ⟨h.1, hs'.next h.2⟩))
      repeat (first
        | go_big_quiet_skip
        | (go_big_quiet_want; refine quiet_load_cells 33 _ rfl gn N 33 _ rfl (fun w' h => HNr.out.below h.1) Tryd.underlying33 rfl HIN.out ?_; go_big_quiet_on; simp only [Act.put, List.setIfInBounds_toArray, List.set_cons_zero, List.set_cons_succ])
        | (go_big_quiet_want; refine quiet_load_cells 33 _ rfl gm NM 33 _ rfl (fun w' h => HMr.out.below h.1) Tryd.underlying33 rfl HIM.out ?_; go_big_quiet_on; simp only [Act.put, List.setIfInBounds_toArray, List.set_cons_zero, List.set_cons_succ])
        | (go_big_quiet_want; refine quiet_convert6 44 9 _ rfl (.slice (some ⟨gb, 0, none⟩) S.length cb) (.string ⟨TS.toArray⟩) rfl (fun w' h => HCV.out w' h.1) ?_; go_big_quiet_on; simp only [Act.put, List.setIfInBounds_toArray, List.set_cons_zero, List.set_cons_succ])
        | go_big_quiet_step ((intro hs'; rfl)))
      go_big_quiet_step ((intro hs'; exact (HF1.out _).mono fun e w' h => ⟨h.1, hs'.next h.2⟩))
      repeat (first
        | go_big_quiet_skip
        | (go_big_quiet_want; refine quiet_load_cells 33 _ rfl gn N 33 _ rfl (fun w' h => HNr.out.below h.1) Tryd.underlying33 rfl HIN.out ?_; go_big_quiet_on; simp only [Act.put, List.setIfInBounds_toArray, List.set_cons_zero, List.set_cons_succ])
        | (go_big_quiet_want; refine quiet_load_cells 33 _ rfl gm NM 33 _ rfl (fun w' h => HMr.out.below h.1) Tryd.underlying33 rfl HIM.out ?_; go_big_quiet_on; simp only [Act.put, List.setIfInBounds_toArray, List.set_cons_zero, List.set_cons_succ])
        | (go_big_quiet_want; refine quiet_convert6 44 9 _ rfl (.slice (some ⟨gb, 0, none⟩) S.length cb) (.string ⟨TS.toArray⟩) rfl (fun w' h => HCV.out w' h.1) ?_; go_big_quiet_on; simp only [Act.put, List.setIfInBounds_toArray, List.set_cons_zero, List.set_cons_succ])
        | go_big_quiet_step ((intro hs'; rfl)))
      go_big_quiet_step ((intro hs'; exact (HD2.out _ hs'.2).mono fun e w' h => ⟨h.1, hs'.next h.2⟩))
      repeat (first
        | go_big_quiet_skip
        | (go_big_quiet_want; refine quiet_load_cells 33 _ rfl gn N 33 _ rfl (fun w' h => HNr.out.below h.1) Tryd.underlying33 rfl HIN.out ?_; go_big_quiet_on; simp only [Act.put, List.setIfInBounds_toArray, List.set_cons_zero, List.set_cons_succ])
        | (go_big_quiet_want; refine quiet_load_cells 33 _ rfl gm NM 33 _ rfl (fun w' h => HMr.out.below h.1) Tryd.underlying33 rfl HIM.out ?_; go_big_quiet_on; simp only [Act.put, List.setIfInBounds_toArray, List.set_cons_zero, List.set_cons_succ])
        | (go_big_quiet_want; refine quiet_convert6 44 9 _ rfl (.slice (some ⟨gb, 0, none⟩) S.length cb) (.string ⟨TS.toArray⟩) rfl (fun w' h => HCV.out w' h.1) ?_; go_big_quiet_on; simp only [Act.put, List.setIfInBounds_toArray, List.set_cons_zero, List.set_cons_succ])
        | go_big_quiet_step ((intro hs'; rfl)))
      go_big_quiet_step ((intro hs'; exact (HF2.out _).mono fun e w' h => ⟨h.1, hs'.next h.2⟩))
      repeat (first
        | go_big_quiet_skip
        | (go_big_quiet_want; refine quiet_load_cells 33 _ rfl gn N 33 _ rfl (fun w' h => HNr.out.below h.1) Tryd.underlying33 rfl HIN.out ?_; go_big_quiet_on; simp only [Act.put, List.setIfInBounds_toArray, List.set_cons_zero, List.set_cons_succ])
        | (go_big_quiet_want; refine quiet_load_cells 33 _ rfl gm NM 33 _ rfl (fun w' h => HMr.out.below h.1) Tryd.underlying33 rfl HIM.out ?_; go_big_quiet_on; simp only [Act.put, List.setIfInBounds_toArray, List.set_cons_zero, List.set_cons_succ])
        | (go_big_quiet_want; refine quiet_convert6 44 9 _ rfl (.slice (some ⟨gb, 0, none⟩) S.length cb) (.string ⟨TS.toArray⟩) rfl (fun w' h => HCV.out w' h.1) ?_; go_big_quiet_on; simp only [Act.put, List.setIfInBounds_toArray, List.set_cons_zero, List.set_cons_succ])
        | go_big_quiet_step ((intro hs'; rfl)))
      go_big_quiet_step ((intro hs'; exact (HD3.out _ hs'.2).mono fun e w' h => ⟨h.1, hs'.next h.2⟩))
      repeat (first
        | go_big_quiet_skip
        | (go_big_quiet_want; refine quiet_load_cells 33 _ rfl gn N 33 _ rfl (fun w' h => HNr.out.below h.1) Tryd.underlying33 rfl HIN.out ?_; go_big_quiet_on; simp only [Act.put, List.setIfInBounds_toArray, List.set_cons_zero, List.set_cons_succ])
        | (go_big_quiet_want; refine quiet_load_cells 33 _ rfl gm NM 33 _ rfl (fun w' h => HMr.out.below h.1) Tryd.underlying33 rfl HIM.out ?_; go_big_quiet_on; simp only [Act.put, List.setIfInBounds_toArray, List.set_cons_zero, List.set_cons_succ])
        | (go_big_quiet_want; refine quiet_convert6 44 9 _ rfl (.slice (some ⟨gb, 0, none⟩) S.length cb) (.string ⟨TS.toArray⟩) rfl (fun w' h => HCV.out w' h.1) ?_; go_big_quiet_on; simp only [Act.put, List.setIfInBounds_toArray, List.set_cons_zero, List.set_cons_succ])
        | go_big_quiet_step ((intro hs'; rfl)))
      go_big_quiet_step ((intro hs'; exact (HF3.out _).mono fun e w' h => ⟨h.1, hs'.next h.2⟩))
      repeat (first
        | go_big_quiet_skip
        | (go_big_quiet_want; refine quiet_load_cells 33 _ rfl gn N 33 _ rfl (fun w' h => HNr.out.below h.1) Tryd.underlying33 rfl HIN.out ?_; go_big_quiet_on; simp only [Act.put, List.setIfInBounds_toArray, List.set_cons_zero, List.set_cons_succ])
        | (go_big_quiet_want; refine quiet_load_cells 33 _ rfl gm NM 33 _ rfl (fun w' h => HMr.out.below h.1) Tryd.underlying33 rfl HIM.out ?_; go_big_quiet_on; simp only [Act.put, List.setIfInBounds_toArray, List.set_cons_zero, List.set_cons_succ])
        | (go_big_quiet_want; refine quiet_convert6 44 9 _ rfl (.slice (some ⟨gb, 0, none⟩) S.length cb) (.string ⟨TS.toArray⟩) rfl (fun w' h => HCV.out w' h.1) ?_; go_big_quiet_on; simp only [Act.put, List.setIfInBounds_toArray, List.set_cons_zero, List.set_cons_succ])
        | go_big_quiet_step ((intro hs'; rfl)))
      refine wpQuiet_nil ?_
      intro w10 hs10
      have HB10 := Lib.hid (HB.out.trans (hs10.1.mono HB.out.size))
      clear hs10
      go_wp2_with fail
      exact ⟨⟨k + 1, by omega, by go_num, HB10.out⟩, by simp [intOf]; omega⟩
    · obtain rfl : k = 4 := by omega
      have HBr := Lib.hid (HB9.out.trans (hb.mono HB9.out.size))
      clear hb HB
      go_wp2_with fail
      go_ret
      exact ⟨rfl, HBr.out⟩
end Go.Proofs.YtcjjhddppcmgoaaDoor.keysOther
