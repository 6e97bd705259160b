/-
  The document's Wide, Leaves, Root, Digest, Sign.
-/
import Derived.Test.YtcjjhddppcmgoaaDoorKeysM
import Derived.Test.YtcjjhddppcmgoaaDoorOnceRef
import Derived.Test.YtcjjhddppcmgoaaDoorTreeRef
namespace Go.Proofs.YtcjjhddppcmgoaaDoor
open Go.RowKit Go.BigFrame

set_option maxHeartbeats 1000000 in
theorem ref_wide (h : Int) (w : World) :
    Calls Tryd.prog 13 #[.int .i64 h] w fun e w' => e = .returned (.int .i64 ((wideN h : Nat) : Int)) ∧ w' = w := by
  have HWB := Shut.mk (fun hb : h < 1 ∨ 8 < h => wideN_zero hb)
  have HWO := Shut.mk (fun (n : Nat) (h1 : 1 ≤ n) (h8 : n ≤ 8) => wideN_ok h1 h8)
  obtain ⟨W, hW⟩ : ∃ W, wideN h = W := ⟨_, rfl⟩
  have HW := Shut.mk hW
  rw [hW]
  clear hW
  go_enter Tryd.func13, Tryd.ntmps13
  by_cases hb : h < 1
  · go_wp2_with fail
    go_ret
    exact ⟨by rw [← HW.out, HWB.out (.inl hb)]; rfl, rfl⟩
  · by_cases hb2 : 8 < h
    · go_wp2_with fail
      go_ret
      exact ⟨by rw [← HW.out, HWB.out (.inr hb2)]; rfl, rfl⟩
    · obtain ⟨n, rfl⟩ : ∃ n : Nat, h = n := ⟨h.toNat, by omega⟩
      have hn1 : 1 ≤ n := by omega
      have hn8 : n ≤ 8 := by omega
      go_wp2_with fail
      go_loop [3, 4] (fun m i => ∃ k q : Nat, k ≤ n ∧ i = .int .i64 k ∧ m = .int .i64 q ∧ Hid (q = 2 ^ k)) (fun _ i => n - (intOf i).toNat)
      case atStart => exact ⟨0, 1, by omega, rfl, rfl, Lib.hid rfl⟩
      case round =>
        obtain ⟨k, q, hk, rfl, rfl, hq⟩ := hrel
        have hq2 : q ≤ 256 := by rw [hq.out]; exact Nat.le_trans (Nat.pow_le_pow_right (by decide) (show k ≤ 8 by omega)) (by decide)
        by_cases hlk : k < n
        · have hlk2 : (k : Int) < (n : Int) := by omega
          go_wp2_with fail
          exact ⟨⟨k + 1, 2 * q, by omega, by go_num, by go_num, Lib.hid (by rw [hq.out, Nat.pow_succ, Nat.mul_comm])⟩, by simp [intOf]; omega⟩
        · obtain rfl : k = n := by omega
          have hnw : ¬ (k : Int) < (k : Int) := by omega
          go_wp2_with fail
          go_ret
          exact ⟨by rw [← HW.out, HWO.out k hn1 hn8, hq.out]; rfl, rfl⟩

set_option maxHeartbeats 1000000 in
set_option maxRecDepth 100000 in
theorem ref_leaves (seed : List UInt8) (h : Int) (w : World) (hs : seed.length ≤ 4000) :
    Calls Tryd.prog 14 #[.string ⟨seed.toArray⟩, .int .i64 h] w fun e w' => (∃ v, e = .returned v ∧ OwnE w.heap.size 31 v (leavesN seed (wideN h)) w') ∧ Below w.heap.size w w' := by
  have HW0 := wideN_le h
  have HWI := Lib.hid (fun w => ref_wide h w)
  obtain ⟨W, hW⟩ : ∃ W, wideN h = W := ⟨_, rfl⟩
  rw [hW] at HW0 HWI ⊢
  have HS := Lib.hid hs
  clear hW hs
  go_enter Tryd.func14, Tryd.ntmps14
  go_wp2_with fail
  go_loopw [5, 6] (fun v n wq => ∃ k : Nat, k ≤ W ∧ n = .int .i64 k ∧ OwnE w.heap.size 31 v (leavesN seed k) wq ∧ Below w.heap.size w wq) (fun _ n _ => W - (intOf n).toNat)
  case atStart => exact ⟨0, by omega, rfl, OwnE.nil _ _ _, Below.refl _ _⟩
  case round =>
    obtain ⟨k, hk, rfl, ho, hb⟩ := hrel
    have HO := Lib.hid ho
    have HB := Lib.hid hb
    clear ho hb
    go_wp2_with fail
    refine (HWI.out wr).mono ?_
    rintro e w1 ⟨rfl, rfl⟩
    by_cases hlk : k < W
    · have hlk2 : (k : Int) < (W : Int) := by omega
      have HNX := Shut.mk (leavesN_next seed k)
      have HXL := leafN_len seed (k : Int)
      have HXT := leafN_lt seed (k : Int)
      have HPL := Shut.mk (leavesN_len seed k)
      have HLF := Lib.hid (fun w => ref_leaf seed (k : Int) w HS.out (by omega) (by omega))
      obtain ⟨x, hx⟩ : ∃ x, leafN seed (k : Int) = x := ⟨_, rfl⟩
      obtain ⟨M, hM⟩ : ∃ M, leavesN seed k = M := ⟨_, rfl⟩
      rw [hx] at HNX HXL HXT HLF
      rw [hM] at HNX HPL HO
      have HX1 := Lib.hid HXL
      have HX2 := Lib.hid HXT
      clear hx hM HXL HXT
      go_wp2_with fail
      refine (HLF.out w1).mono ?_
      rintro e w2 ⟨rfl, hb2⟩
      have HO2 := Lib.hid (HO.out.below hb2)
      have HB2 := Lib.hid (HB.out.trans (hb2.mono HB.out.size))
      clear hb2 HO HB HLF
      go_wp2_with (refine wpList_build_elem rfl 36 31 (.tmp 16) rfl x rfl HX1.out Tryd.underlying36 Tryd.infoE16 ?_)
      intro w3 hl3 hb3
      have HL3 := Lib.hid (blk_news hl3.out)
      have HO3 := Lib.hid (HO2.out.below hb3.out)
      have HB3 := Lib.hid (HB2.out.trans (hb3.out.mono HB2.out.size))
      clear hl3 hb3 HO2 HB2
      go_wp2_with (at_builtin; refine wpList_append_elems rfl (.tmp 13) (.tmp 17) 36 31 rfl w.heap.size _ rfl Tryd.underlying36 Tryd.infoE16 _ M [x] (Elems.one HX1.out HX2.out) ⟨w2.heap.size, 0, none⟩ 1 1 rfl rfl HO3.out rfl (by rw [flatE_one]; exact HL3.out) (by rw [HPL.out]; simp; omega) HB3.out.size ?_)
      intro v4 w4 ho4 hb4
      have HB4 := Lib.hid (HB3.out.trans hb4.out)
      clear hb4 HB3
      go_wp2_with fail
      exact ⟨⟨k + 1, by omega, by go_num, by rw [HNX.out]; exact ho4.out, HB4.out⟩, by simp [intOf]; omega⟩
    · obtain rfl : k = W := by omega
      have hnw : ¬ (k : Int) < (k : Int) := by omega
      go_wp2_with fail
      go_ret
      exact ⟨⟨_, rfl, HO.out⟩, HB.out⟩

set_option maxHeartbeats 1000000 in
set_option maxRecDepth 100000 in
theorem ref_root6 (L : List (List Nat)) (h : Nat) (ao : Option Addr) (cap : Nat) (w : World) (hL : Elems L) (hE : EAt ao L w) (hn : L.length = 2 ^ h) (h8 : h ≤ 8) :
    Calls Tryd.prog 15 #[.slice ao L.length cap] w fun e w' => e = .returned (.agg (nums .u8 (atN L h 0)).toArray) ∧ Below w.heap.size w w' := by
  have HE := Lib.hid hE
  have h256 : L.length ≤ 256 := by rw [hn]; exact Nat.le_trans (Nat.pow_le_pow_right (by decide) h8) (by decide)
  have HH := Shut.mk (show heightN L.length = h by rw [hn, heightN_pow])
  have HA := Lib.hid (fun w hE => ref_at L ao cap hL h256 h 0 w hE (by rw [Nat.zero_add, Nat.one_mul, hn]; exact Nat.le_refl _) h8)
  obtain ⟨hx1, hx2⟩ := atN_ok hL h 0 (by rw [Nat.zero_mul, hn]; exact Nat.two_pow_pos h)
  obtain ⟨x, hx⟩ : ∃ x, atN L h 0 = x := ⟨_, rfl⟩
  rw [hx] at HA hx1 ⊢
  have HI := Lib.hid (show (Tryd.prog.info? 31).map (·.size) = some x.length by rw [hx1]; exact Tryd.infoE)
  have HL2 := Lib.hid (show (List.replicate 16 0).length = x.length by rw [hx1]; rfl)
  clear hE hn hL hx hx1 hx2
  go_enter Tryd.func15, Tryd.ntmps15
  go_upto_region 1 with (fail)
  change Code.wp _ _ _ _ (w.alloc (.cells (nums .u8 (List.replicate 16 0)).toArray 31))
  obtain ⟨w1, hw1⟩ : ∃ x', x' = w.alloc (.cells (nums .u8 (List.replicate 16 0)).toArray 31) := ⟨_, rfl⟩
  rw [← hw1]
  have HR1 := Lib.hid (show Blk w.heap.size 31 .u8 (List.replicate 16 0) w1 by rw [hw1]; exact heap_alloc_new w _)
  have HB1 := Lib.hid (show Below w.heap.size w w1 by rw [hw1]; exact (Below.refl _ _).alloc (Nat.le_refl _) _)
  obtain ⟨g, hgg⟩ : ∃ g, g = w.heap.size := ⟨_, rfl⟩
  rw [← hgg] at HR1 ⊢
  have HGG := Lib.hid (show w.heap.size ≤ g by omega)
  clear hw1 hgg
  go_wp2_with fail
  refine (height_any L.length w1 (by omega)).mono ?_
  rintro e w2 ⟨rfl, rfl⟩
  rw [HH.out]
  go_wp2_with fail
  refine (HA.out w2 (HE.out.below HB1.out)).mono ?_
  rintro e w3 ⟨rfl, hb3⟩
  have HR3 := Lib.hid (HR1.out.below hb3)
  have HB3 := Lib.hid (HB1.out.trans (hb3.mono HB1.out.size))
  clear hb3 HR1 HB1
  go_wp2_with (refine wpList_store_nums rfl 31 _ _ rfl rfl g .u8 _ x 31 rfl rfl HR3.out HI.out HL2.out ?_)
  intro w7 hc' hb'
  have HC7 := Lib.hid (show Blk g 31 .u8 x w7 from hc'.out)
  have HB7 := Lib.hid (show Below w.heap.size w w7 from But.toBelow HB3.out hb'.out HGG.out HB3.out.size)
  clear hc' hb'
  go_wp2_with fail
  exact bodyPost_ret (results_nums rfl _ _ g .u8 _ 31 _ rfl HC7.out Tryd.underlying31 rfl HI.out) rfl ⟨rfl, HB7.out⟩

set_option maxHeartbeats 4000000 in
set_option maxRecDepth 100000 in
theorem ref_digest6 (r : List Nat) (i : Int) (t : List UInt8) (w : World) (hr : r.length = 16) (lr : ∀ y ∈ r, y < 256) (hi : i ≤ 9223372036854775807) (ht : t.length ≤ 1000000) :
    Calls Tryd.prog 17 #[.agg (nums .u8 r).toArray, .int .i64 i, .string ⟨t.toArray⟩] w fun e w' => e = .returned (.agg (nums .u8 (digK r i t)).toArray) ∧ Below w.heap.size w w' := by
  have HS0 := digK_small hr hi ht
  have HR := Lib.hid hr
  have LR := Lib.hid lr
  clear hr lr
  go_enter Tryd.func17, Tryd.ntmps17
  go_upto_region 1 with (fail)
  change Code.wp _ _ _ _ ((w.alloc (.cells (nums .u8 r).toArray 31)).alloc (.cells (nums .u8 (List.replicate 16 0)).toArray 31))
  obtain ⟨w1, hw1⟩ : ∃ x', x' = (w.alloc (.cells (nums .u8 r).toArray 31)).alloc (.cells (nums .u8 (List.replicate 16 0)).toArray 31) := ⟨_, rfl⟩
  rw [← hw1]
  have h3 : Blk w.heap.size 31 .u8 r w1 ∧ Blk (w.heap.size + 1) 31 .u8 (List.replicate 16 0) w1 ∧ Below w.heap.size w w1 := by rw [hw1]; exact two_new w _ _ _ _
  obtain ⟨hr1, hz1, hb1⟩ := h3
  obtain ⟨gz, hgz⟩ : ∃ g, g = w.heap.size + 1 := ⟨_, rfl⟩
  obtain ⟨gr, hgr⟩ : ∃ g, g = w.heap.size := ⟨_, rfl⟩
  have HGZ := Lib.hid (show w.heap.size ≤ gz by omega)
  rw [← hgz] at hz1 ⊢
  rw [← hgr] at hr1 ⊢
  have HR1 := Lib.hid hr1
  have HZ1 := Lib.hid hz1
  have HB1 := Lib.hid hb1
  clear hr1 hz1 hb1 hw1 hgz hgr
  obtain ⟨nx, hnx⟩ : ∃ n : Nat, max i 0 = n := ⟨i.toNat, by omega⟩
  have hxn : i.toNat = nx := by omega
  have hxn2 : nx < 9223372036854775808 := by omega
  rw [hxn] at HS0
  have HS := Lib.hid HS0
  have HU := Shut.mk (show (shaN (listB [[116, 101, 120, 116], txt r, numB nx, t])).take 16 = digK r i t by rw [← hxn]; rfl)
  clear hxn HS0
  refine wp_region_class_tail (fun w' => Below w1.heap.size w1 w') 6 (by kernel_rfl) (by kernel_rfl) (Below.refl _ _).drew ?_
  simp only [List.take_succ_cons, List.take_zero, List.drop_succ_cons, List.drop_zero]
  repeat (first
    | (go_big_quiet_want; refine quiet_conv_nums 44 9 5 _ rfl gr 16 r 31 (by rw [HR.out]; rfl) LR.out (fun w' h => HR1.out.below h) Tryd.underlying44 Tryd.underlying5 Tryd.underlying9 ?_; go_big_quiet_on; simp only [Act.put, List.setIfInBounds_toArray, List.set_cons_zero, List.set_cons_succ])
    | go_big_quiet_step ((intro hs'; first
        | rfl
        | (go_at_call_of 36 (Value.int .i64 (nx : Int)); exact (rnumref_any nx _ hxn2).mono fun e w' h => ⟨h.1, hs'.trans (h.2.mono hs'.size)⟩))))
  refine wpQuiet_nil ?_
  intro w2 hs2
  have HZ2 := Lib.hid (HZ1.out.below hs2)
  have HB2 := Lib.hid (HB1.out.trans (hs2.mono HB1.out.size))
  clear hs2 HR1 HZ1 HB1
  go_wp2_with fail
  refine (ref_sum [116, 101, 120, 116] (some ⟨w2.heap.size, 0, none⟩) 3 [txt r, numB nx, t] _ (at_three w2 _ _ _) (fun h => by cases h) (by simp) HS.out).mono ?_
  rintro e w5 ⟨rfl, hb5⟩
  have hb : Below w2.heap.size w2 w5 := ((Below.refl _ w2).alloc (Nat.le_refl _) _).trans (hb5.mono (by simp))
  have HZ5 := Lib.hid (HZ2.out.below hb)
  have HB5 := Lib.hid (HB2.out.trans (hb.mono HB2.out.size))
  clear hb hb5 HZ2 HB2
  go_wp2_with fail
  refine (ref_cut _ w5 (shaN_len _)).mono ?_
  rintro e w6 ⟨rfl, hb6⟩
  have HZ6 := Lib.hid (HZ5.out.below hb6)
  have HB6 := Lib.hid (HB5.out.trans (hb6.mono HB5.out.size))
  clear hb6 HZ5 HB5
  rw [HU.out]
  have HUL0 := digK_len r i t
  clear HU
  obtain ⟨U, hU⟩ : ∃ U, digK r i t = U := ⟨_, rfl⟩
  rw [hU] at HUL0 ⊢
  have HUL := Lib.hid HUL0
  have HUE := Shut.mk hU
  clear hU HUL0
  have HI := Lib.hid (show (Tryd.prog.info? 31).map (·.size) = some U.length by rw [HUL.out]; exact Tryd.infoE)
  have HL2 := Lib.hid (show (List.replicate 16 0).length = U.length by rw [HUL.out]; rfl)
  go_wp2_with (refine wpList_store_nums rfl 31 _ _ rfl rfl gz .u8 _ U 31 rfl rfl HZ6.out HI.out HL2.out ?_)
  intro w7 hc' hb'
  have HC7 := Lib.hid (show Blk gz 31 .u8 U w7 from hc'.out)
  have HB7 := Lib.hid (show Below w.heap.size w w7 from But.toBelow HB6.out hb'.out HGZ.out HB6.out.size)
  clear hc' hb'
  go_wp2_with fail
  exact bodyPost_ret (results_nums rfl _ _ gz .u8 _ 31 _ rfl HC7.out Tryd.underlying31 rfl HI.out) rfl ⟨by rw [HUE.out], HB7.out⟩

set_option maxHeartbeats 2000000 in
set_option maxRecDepth 100000 in
theorem ref_sign6 (seed : List UInt8) (h i : Nat) (t : List UInt8) (ao : Option Addr) (cap : Nat) (w : World) (hs : seed.length ≤ 4000) (h8 : h ≤ 8) (hi : i < 2 ^ h) (ht : t.length ≤ 1000000) (hE : EAt ao (leavesN seed (2 ^ h)) w) :
    Calls Tryd.prog 19 #[.string ⟨seed.toArray⟩, .slice ao (2 ^ h) cap, .int .i64 i, .string ⟨t.toArray⟩] w fun e w' => e = .returned (.string ⟨(signK seed h i t).toArray⟩) ∧ Below w.heap.size w w' := by
  have hLL := leavesN_len seed (2 ^ h)
  have hpow : 2 ^ h ≤ 256 := Nat.le_trans (Nat.pow_le_pow_right (by decide) h8) (by decide)
  have hi2 : i < 256 := by omega
  have HRT := Lib.hid (fun w hE => ref_root6 (leavesN seed (2 ^ h)) h ao cap w (leavesN_ok _ _) hE hLL h8)
  have HPT := Lib.hid (fun w hE => ref_path (leavesN seed (2 ^ h)) i h ao cap w (leavesN_ok _ _) hE hLL h8 (by rw [hLL]; exact hi))
  rw [hLL] at HRT HPT
  rw [show atN (leavesN seed (2 ^ h)) h 0 = rootK seed h from rfl] at HRT
  obtain ⟨hr1, hr2⟩ := rootK_ok seed h
  have HPE := pathK_ok seed hi
  have HPL := pathN_len (leavesN seed (2 ^ h)) i h
  have HSK := Shut.mk (show signK seed h i t = signN seed i (digK (rootK seed h) i t) ++ flatT (pathN (leavesN seed (2 ^ h)) i h) from rfl)
  obtain ⟨S, hS⟩ : ∃ S, signK seed h i t = S := ⟨_, rfl⟩
  obtain ⟨r, hr⟩ : ∃ r, rootK seed h = r := ⟨_, rfl⟩
  obtain ⟨P, hP⟩ : ∃ P, pathN (leavesN seed (2 ^ h)) i h = P := ⟨_, rfl⟩
  rw [hS] at HSK ⊢
  rw [hr] at HSK HRT hr1 hr2
  rw [hP] at HSK HPT HPE HPL
  have hd1 := digK_len r i t
  have hd2 := digK_lt r i t
  have HDG := Lib.hid (fun w => ref_digest6 r i t w hr1 hr2 (by omega) ht)
  obtain ⟨d, hd⟩ : ∃ d, digK r i t = d := ⟨_, rfl⟩
  rw [hd] at HSK hd1 hd2 HDG
  have HSG := Lib.hid (fun w => ref_sign seed (i : Int) d w hs (by omega) (by omega) hd1 hd2)
  have hgl := signN_len seed i d
  obtain ⟨G, hG⟩ : ∃ G, signN seed i d = G := ⟨_, rfl⟩
  rw [hG] at HSK HSG hgl
  have LP := Lib.hid HPE
  obtain ⟨m, hm⟩ : ∃ m, 2 ^ h = m := ⟨_, rfl⟩
  rw [hm] at HRT HPT hpow hE ⊢
  have HE := Lib.hid hE
  clear hLL hS hr hP hd hG hr1 hr2 hd1 hd2 hE hs hi hm
  go_enter Tryd.func19, Tryd.ntmps19
  go_wp2_with fail
  refine (HRT.out w HE.out).mono ?_
  rintro e w1 ⟨rfl, hb1⟩
  have HB1 := Lib.hid hb1
  clear hb1
  go_wp2_with fail
  refine (HDG.out w1).mono ?_
  rintro e w2 ⟨rfl, hb2⟩
  have HB2 := Lib.hid (HB1.out.trans (hb2.mono HB1.out.size))
  clear hb2 HB1
  go_wp2_with fail
  refine (HSG.out w2).mono ?_
  rintro e w3 ⟨rfl, hb3⟩
  have HB3 := Lib.hid (HB2.out.trans (hb3.mono HB2.out.size))
  clear hb3 HB2
  go_wp2_with fail
  refine (HPT.out w3 (HE.out.below HB3.out)).mono ?_
  rintro e w4 ⟨⟨v, rfl, ho⟩, hb4⟩
  obtain ⟨a1, c1, rfl⟩ := ho.form
  have HP4 := Lib.hid (ho.at HPE)
  have HB4 := Lib.hid (HB3.out.trans (hb4.mono HB3.out.size))
  clear ho hb4 HB3 HRT HDG HSG HPT HPE
  go_wp2_with fail
  go_loopw [9, 24] (fun s n wq => ∃ k : Nat, k ≤ P.length ∧ n = .int .i64 k ∧ s = .string ⟨(G ++ flatT (P.take k)).toArray⟩ ∧ Below w4.heap.size w4 wq) (fun _ n _ => P.length - (intOf n).toNat)
  case atStart => exact ⟨0, by omega, rfl, by simp [flatT], Below.refl _ _⟩
  case round =>
    obtain ⟨k, hk, rfl, rfl, hb⟩ := hrel
    have HB := Lib.hid hb
    by_cases hlk : k < P.length
    · obtain ⟨b, o, rfl, hbb⟩ := HP4.out.some (by omega)
      have HX := Lib.hid (rangeAt_below (HP4.out.get hlk) hb hbb)
      obtain ⟨hx1, hx2⟩ := LP.out.getD hlk
      have HTN := Shut.mk (show G ++ flatT (P.take (k + 1)) = (G ++ flatT (P.take k)) ++ txt (P.getD k []) by rw [take_next hlk, flatT_append, flatT_one, List.append_assoc])
      have hql : (G ++ flatT (P.take k)).length = 560 + 16 * k := by rw [List.length_append, hgl, flatT_len (LP.out.take k), take_len hk]
      obtain ⟨x, hx⟩ : ∃ x, P.getD k [] = x := ⟨_, rfl⟩
      obtain ⟨Q, hQ⟩ : ∃ Q, G ++ flatT (P.take k) = Q := ⟨_, rfl⟩
      rw [hx] at hx1 hx2 HX HTN
      rw [hQ] at HTN hql ⊢
      have hcl : ¬ 9223372036854775807 < Q.length + (txt x).length := by rw [hql, txt_len, hx1]; omega
      have HX1 := Lib.hid hx1
      have HX2 := Lib.hid hx2
      clear hx hQ hx1 hx2 hb hbb hql
      have HI := Lib.hid (show (Tryd.prog.info? 31).map (·.size) = some x.length by rw [HX1.out]; exact Tryd.infoE)
      have HLX := Lib.hid (show (List.replicate 16 0).length = x.length by rw [HX1.out]; rfl)
      have HX8 := Lib.hid (show Blk wr.heap.size 31 .u8 (List.replicate 16 0) (wr.alloc (.cells (nums .u8 (List.replicate 16 0)).toArray 31)) from heap_alloc_new wr _)
      go_wp2_with (first
        | (refine wpList_load_elem rfl 31 _ rfl b (o + k * 16) x _ rfl HX.out Tryd.underlying31 rfl HI.out ?_)
        | (refine wpList_store_nums rfl 31 _ _ rfl rfl wr.heap.size .u8 _ x 31 rfl rfl HX8.out HI.out HLX.out ?_))
      intro w5 hc' hb'
      have hb5 : Below wr.heap.size wr w5 := But.toBelow ((Below.refl _ wr).alloc (Nat.le_refl _) _) hb'.out (Nat.le_refl _) (by simp)
      have HY5 := Lib.hid (show Blk wr.heap.size 31 .u8 x w5 from hc'.out)
      have HB5 := Lib.hid (HB.out.trans (hb5.mono HB.out.size))
      obtain ⟨gy, hgy⟩ : ∃ g, g = wr.heap.size := ⟨_, rfl⟩
      rw [← hgy] at HY5 ⊢
      clear hc' hb' hb5 hgy HB HX8 HLX
      have hconv := conv_blk (P := Tryd.prog) w5 44 9 5 gy 16 16 x 31 HX1.out.symm HX2.out HY5.out Tryd.underlying44 Tryd.underlying5 Tryd.underlying9
      have hcat := cat2 Q (txt x)
      go_wp2_with fail
      exact ⟨⟨k + 1, by omega, by go_num, by rw [HTN.out], HB5.out⟩, by simp [intOf]; omega⟩
    · obtain rfl : k = P.length := by omega
      have hnw : ¬ (P.length : Int) < (P.length : Int) := by omega
      have HBr := Lib.hid (HB4.out.trans (hb.mono HB4.out.size))
      rw [List.take_length, ← HSK.out]
      clear hb HB HB4
      go_wp2_with fail
      go_ret
      exact ⟨rfl, HBr.out⟩
end Go.Proofs.YtcjjhddppcmgoaaDoor
