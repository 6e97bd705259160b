/-
  The developers' Root and Path.
-/
import Derived.Test.YtgmckanjgnpbhaaDoorLevels
namespace Go.Proofs.YtgmckanjgnpbhaaDoor
open Go.RowKit Go.BigFrame

theorem bits_xor_one {q : Nat} (h : q < 256) : bits .xor .i64 (q : Int) 1 = ((sibN q : Nat) : Int) := by
  have key : ∀ n : Fin 300, IntKind.i64.wrap (n.val : Int) = (n.val : Int) := by decide +kernel
  show IntKind.i64.wrap ((BitVec.ofInt 64 (q : Int) ^^^ BitVec.ofInt 64 1).toNat : Int) = _
  rw [xor_one_i64 h]
  exact key ⟨sibN q, by unfold sibN; split <;> omega⟩

set_option maxHeartbeats 1000000 in
set_option maxRecDepth 100000 in
theorem dev_root_not (n : Nat) (ao : Option Addr) (cap : Nat) (w : World) (hg : goodN n = false) (hn : n ≤ 9000000000000) :
    Calls Tryd.prog 10 #[.slice ao n cap] w fun e w' => e = .returned (.tuple #[.agg (nums .u8 (List.replicate 16 0)).toArray, .int .i64 1]) ∧ Below w.heap.size w w' := by
  have HG := Shut.mk hg
  clear hg
  go_enter Tryd.func10, Tryd.ntmps10
  go_upto_region 1 with (fail)
  change Code.wp _ _ _ _ (w.alloc (.cells (nums .u8 (List.replicate 16 0)).toArray 27))
  obtain ⟨w1, hw1⟩ : ∃ x', x' = w.alloc (.cells (nums .u8 (List.replicate 16 0)).toArray 27) := ⟨_, rfl⟩
  rw [← hw1]
  have HR1 := Lib.hid (show Blk w.heap.size 27 .u8 (List.replicate 16 0) w1 by rw [hw1]; exact heap_alloc_new w _)
  have HB1 := Lib.hid (show Below w.heap.size w w1 by rw [hw1]; exact (Below.refl _ _).alloc (Nat.le_refl _) _)
  obtain ⟨g, hgg⟩ : ∃ g, g = w.heap.size := ⟨_, rfl⟩
  rw [← hgg] at HR1 ⊢
  have HGG := Lib.hid (show w.heap.size ≤ g by omega)
  clear hw1 hgg
  go_wp2_with fail
  refine (dev_permitted n w1 hn).mono ?_
  rintro e w2 ⟨rfl, rfl⟩
  rw [HG.out]
  go_wp2_with (refine wpList_store_nums rfl 27 _ _ rfl rfl g .u8 _ (List.replicate 16 0) 27 rfl rfl HR1.out Tryd.infoE rfl ?_)
  intro w7 hc' hb'
  have HC7 := Lib.hid (show Blk g 27 .u8 (List.replicate 16 0) w7 from hc'.out)
  have HB7 := Lib.hid (show Below w.heap.size w w7 from But.toBelow HB1.out hb'.out HGG.out HB1.out.size)
  clear hc' hb'
  go_wp2_with fail
  exact bodyPost_ret (results_nums_tmp rfl _ _ g .u8 _ 27 _ _ rfl rfl HC7.out Tryd.underlying27 rfl Tryd.infoE) rfl ⟨rfl, HB7.out⟩

set_option maxHeartbeats 1000000 in
set_option maxRecDepth 100000 in
theorem dev_root (L : List (List Nat)) (h : Nat) (ao : Option Addr) (cap : Nat) (w : World) (hL : Elems L) (hE : EAt ao L w) (hg : goodN L.length = true) (hn : L.length = 2 ^ h) (h8 : h ≤ 8) (hkat : KAt w) :
    Calls Tryd.prog 10 #[.slice ao L.length cap] w fun e w' => e = .returned (.tuple #[.agg (nums .u8 (atN L h 0)).toArray, .int .i64 0]) ∧ Below w.heap.size w w' := by
  have HG := Shut.mk hg
  have HN := Shut.mk hn
  have HE := Lib.hid hE
  have LE := Lib.hid hL
  have HK := Lib.hid hkat
  have h256 := goodN_le hg
  have HAT := Shut.mk (show (lvl L L.length h).getD 0 [] = atN L h 0 from lvl_get L (by rw [hn, Nat.div_self (Nat.two_pow_pos h)]; decide))
  have hone : L.length / 2 ^ h = 1 := by rw [hn, Nat.div_self (Nat.two_pow_pos h)]
  have HO := Shut.mk hone
  clear hg hn hE hL hkat hone
  go_enter Tryd.func10, Tryd.ntmps10
  go_upto_region 1 with (fail)
  change Code.wp _ _ _ _ (w.alloc (.cells (nums .u8 (List.replicate 16 0)).toArray 27))
  obtain ⟨w1, hw1⟩ : ∃ x', x' = w.alloc (.cells (nums .u8 (List.replicate 16 0)).toArray 27) := ⟨_, rfl⟩
  rw [← hw1]
  have HR1 := Lib.hid (show Blk w.heap.size 27 .u8 (List.replicate 16 0) w1 by rw [hw1]; exact heap_alloc_new w _)
  have HB1 := Lib.hid (show Below w.heap.size w w1 by rw [hw1]; exact (Below.refl _ _).alloc (Nat.le_refl _) _)
  obtain ⟨g, hgg⟩ : ∃ g, g = w.heap.size := ⟨_, rfl⟩
  rw [← hgg] at HR1 ⊢
  have HGG := Lib.hid (show w.heap.size ≤ g by omega)
  clear hw1 hgg
  go_wp2_with fail
  refine (dev_permitted L.length w1 (by omega)).mono ?_
  rintro e w2 ⟨rfl, rfl⟩
  rw [HG.out]
  go_wp2_with fail
  refine (dev_levels L h ao cap w2 LE.out (HE.out.below HB1.out) HN.out h8 (HK.out.below HB1.out)).mono ?_
  rintro e w3 ⟨⟨v, S, rfl, hov, hlv⟩, hb3⟩
  obtain ⟨g0, c0, rfl, hg0⟩ := hov.formB (by rw [hlv.len]; omega)
  rw [hlv.len] at hov ⊢
  obtain ⟨aj, cj, hsj, hej⟩ := hlv.get ((HE.out.below HB1.out).below hb3) LE.out rfl HN.out (Nat.le_refl _) (Nat.le_refl _)
  have hc := hov.get hlv.len.symm hsj
  rw [HO.out] at hc
  obtain ⟨b, o, rfl, hbb⟩ := hej.some (by rw [lvl_len, HO.out]; decide)
  have hx := hej.get (i := 0) (by rw [lvl_len, HO.out]; decide)
  rw [HAT.out] at hx
  have HX := Lib.hid hx
  obtain ⟨hx1, hx2⟩ := atN_ok LE.out h 0 (by rw [Nat.zero_mul, HN.out]; exact Nat.two_pow_pos h)
  obtain ⟨x, hxe⟩ : ∃ x, atN L h 0 = x := ⟨_, rfl⟩
  rw [hxe] at HX hx1
  have HXE := Shut.mk hxe
  have HX1 := Lib.hid hx1
  have HR3 := Lib.hid (HR1.out.below hb3)
  have HB3 := Lib.hid (HB1.out.trans (hb3.mono HB1.out.size))
  have HI := Lib.hid (show (Tryd.prog.info? 27).map (·.size) = some x.length by rw [HX1.out]; exact Tryd.infoE)
  have HL2 := Lib.hid (show (List.replicate 16 0).length = x.length by rw [HX1.out]; rfl)
  clear hov hlv hb3 hg0 hsj hej hx hbb hx1 hx2 hxe HR1 HB1
  have hsub : ((h + 1 : Nat) : Int) - 1 = (h : Int) := by omega
  go_wp2_with (first
    | (refine wpList_load_elem rfl 27 _ rfl b (o + 0 * 16) x _ rfl HX.out Tryd.underlying27 rfl HI.out ?_)
    | (refine wpList_store_nums rfl 27 _ _ rfl rfl g .u8 _ x 27 rfl rfl HR3.out HI.out HL2.out ?_))
  intro w7 hc' hb'
  have HC7 := Lib.hid (show Blk g 27 .u8 x w7 from hc'.out)
  have HB7 := Lib.hid (show Below w.heap.size w w7 from But.toBelow HB3.out hb'.out HGG.out HB3.out.size)
  clear hc' hb'
  go_wp2_with fail
  exact bodyPost_ret (results_nums_tmp rfl _ _ g .u8 _ 27 _ _ rfl rfl HC7.out Tryd.underlying27 rfl HI.out) rfl ⟨by rw [HXE.out]; rfl, HB7.out⟩

set_option maxHeartbeats 1000000 in
set_option maxRecDepth 100000 in
theorem dev_path_not (n : Nat) (i : Int) (ao : Option Addr) (cap : Nat) (w : World) (hn : n ≤ 9000000000000) (hbad : goodN n = false ∨ i < 0 ∨ (n : Int) ≤ i) :
    Calls Tryd.prog 11 #[.int .i64 i, .slice ao n cap] w fun e w' => e = .returned (.tuple #[.slice none 0 0, .int .i64 1]) ∧ Below w.heap.size w w' := by
  go_enter Tryd.func11, Tryd.ntmps11
  go_wp2_with fail
  refine (dev_permitted n w hn).mono ?_
  rintro e w2 ⟨rfl, rfl⟩
  cases hg : goodN n with
  | false =>
    clear hg hbad
    go_wp2_with fail
    go_ret2
    exact ⟨rfl, Below.refl _ _⟩
  | true =>
    rw [hg] at hbad
    clear hg
    by_cases h0 : i < 0
    · clear hbad
      go_wp2_with fail
      go_ret2
      exact ⟨rfl, Below.refl _ _⟩
    · have h1 : (n : Int) ≤ i := by
        rcases hbad with h | h | h
        · cases h
        · exact absurd h h0
        · exact h
      clear hbad
      go_wp2_with fail
      go_ret2
      exact ⟨rfl, Below.refl _ _⟩

set_option maxHeartbeats 1000000 in
set_option maxRecDepth 100000 in
theorem dev_path (L : List (List Nat)) (h i : Nat) (ao : Option Addr) (cap : Nat) (w : World) (hL : Elems L) (hE : EAt ao L w) (hg : goodN L.length = true) (hn : L.length = 2 ^ h) (h8 : h ≤ 8) (hi : i < L.length) (hkat : KAt w) :
    Calls Tryd.prog 11 #[.int .i64 i, .slice ao L.length cap] w fun e w' => (∃ v, e = .returned (.tuple #[v, .int .i64 0]) ∧ OwnE w.heap.size 27 v (pathN L i h) w') ∧ Below w.heap.size w w' := by
  obtain ⟨i0, hi0, hz0, hz1, hz2⟩ := info_parts Tryd.infoE16
  have HIF := Lib.hid hi0
  have HZ0 := Lib.hid hz0
  have HZ1 := Lib.hid hz1
  have HZ2 := Lib.hid hz2
  have HG := Shut.mk hg
  have HN := Shut.mk hn
  have HE := Lib.hid hE
  have LE := Lib.hid hL
  have HK := Lib.hid hkat
  have h256 := goodN_le hg
  have HPO := Lib.hid (pathN_ok hL hn hi (Nat.le_refl h))
  have HSI := Lib.hid (fun k (hk : k < h) => show sibN (i / 2 ^ k) < L.length / 2 ^ k by rw [hn]; exact sib_lt hk (by rw [← hn]; exact hi))
  have HQ := Lib.hid (fun k => show i / 2 ^ k < 256 from Nat.lt_of_le_of_lt (Nat.div_le_self _ _) (by omega))
  clear hg hn hE hL hkat hi0 hz0 hz1 hz2
  go_enter Tryd.func11, Tryd.ntmps11
  go_wp2_with fail
  refine (dev_permitted L.length w (by omega)).mono ?_
  rintro e w2 ⟨rfl, rfl⟩
  rw [HG.out]
  have hlt : ¬ (L.length : Int) ≤ (i : Int) := by omega
  go_wp2_with fail
  refine (dev_levels L h ao cap w2 LE.out HE.out HN.out h8 HK.out).mono ?_
  rintro e w3 ⟨⟨v, S, rfl, hov, hlv⟩, hb3⟩
  obtain ⟨g0, c0, rfl, hg0⟩ := hov.formB (by rw [hlv.len]; omega)
  rw [hlv.len] at hov ⊢
  have HOV := Lib.hid hov
  have HLV := Lib.hid hlv
  have HG0 := Lib.hid hg0
  have HB3 := Lib.hid hb3
  have HE3 := Lib.hid (HE.out.below hb3)
  clear hov hlv hb3 hg0
  have hsub : ((h + 1 : Nat) : Int) - 1 = (h : Int) := by omega
  go_wp2_with (at_make; refine wpList_make_full _ rfl _ _ 24 rfl w3.heap.size 27 i0 _ 16 Tryd.underlying24 HIF.out HZ0.out HZ1.out .i64 .i64 _ _ h rfl rfl rfl rfl (by rw [HZ2.out]; omega) (by unfold maxLen; omega) (Nat.le_refl _) ?_)
  intro w4 ho4 hg4
  have hb4 : Below w3.heap.size w3 w4 := (Below.refl w3.heap.size w3).grown hg4 (Nat.le_refl _) (by intro g hg; cases hg)
  have HO4 := Lib.hid (show OwnE w3.heap.size 27 (.slice (some ⟨w3.heap.size, 0, none⟩) h h) (partR L i h 0) w4 by rw [partR_zero]; exact OwnE.made ho4)
  have HB4 := Lib.hid hb4
  obtain ⟨g, hg⟩ : ∃ g, g = w3.heap.size := ⟨_, rfl⟩
  rw [← hg] at HO4 ⊢
  have HGE := Lib.hid hg
  clear ho4 hg4 hb4 hg
  go_wp2_with fail
  go_loopw [32] (fun n wq => ∃ k : Nat, k ≤ h ∧ n = .int .i64 k ∧ OwnE g 27 (.slice (some ⟨g, 0, none⟩) h h) (partR L i h k) wq ∧ Below w3.heap.size w3 wq) (fun n _ => h - (intOf n).toNat)
  case atStart => exact ⟨0, by omega, rfl, HO4.out, HB4.out⟩
  case round =>
    clear HO4 HB4
    obtain ⟨k, hk, rfl, hok, hbk⟩ := hrel
    have HOK := Lib.hid hok
    have HBK := Lib.hid hbk
    by_cases hlk : k < h
    · have hlk2 : (k : Int) < (h : Int) := by omega
      obtain ⟨aj, cj, hsj, hej⟩ := HLV.out.get HE3.out LE.out rfl HN.out (Nat.le_refl _) (Nat.le_of_lt hlk)
      have hs := HSI.out k hlk
      have hsx := bits_xor_one (HQ.out k)
      rw [show ((i / 2 ^ k : Nat) : Int) = (i : Int) / 2 ^ k by simp] at hsx
      have hat := lvl_get L hs
      have HPS := Shut.mk (partR_set L i (m := h) hlk)
      obtain ⟨hx1, hx2⟩ := atN_ok LE.out k (sibN (i / 2 ^ k)) (by rw [HN.out]; exact Nat.lt_of_lt_of_le (Nat.mul_lt_mul_of_pos_right hs (Nat.two_pow_pos k)) (by rw [HN.out]; exact Nat.div_mul_le_self _ _))
      obtain ⟨b, o, rfl, hbb⟩ := hej.some (by rw [lvl_len]; omega)
      have hx := hej.get (i := sibN (i / 2 ^ k)) (by rw [lvl_len]; exact hs)
      rw [hat] at hx
      have HX := Lib.hid (rangeAt_below hx hbk hbb)
      have hc := (HOV.out.below hbk).get HLV.out.len.symm hsj
      have HPE := Lib.hid (show Elems (partR L i h k) from (pathN_ok LE.out HN.out hi (Nat.le_of_lt hlk)).append (Elems.zeros _))
      have HPL := Lib.hid (partR_len L i (Nat.le_of_lt hlk))
      obtain ⟨s, hse⟩ : ∃ s, sibN (i / 2 ^ k) = s := ⟨_, rfl⟩
      obtain ⟨x, hxe⟩ : ∃ x, atN L k s = x := ⟨_, rfl⟩
      obtain ⟨m, hm⟩ : ∃ m, L.length / 2 ^ k = m := ⟨_, rfl⟩
      rw [hse] at hs hsx HPS HX hx1 hx2
      rw [hxe] at HPS HX hx1 hx2
      rw [hm] at hs hc
      have HX1 := Lib.hid hx1
      have HX2 := Lib.hid hx2
      clear hsj hej hat hx hbb hse hxe hm hx1 hx2 hok hbk
      have hs2 : (s : Int) < (m : Int) := by omega
      have HI := Lib.hid (show (Tryd.prog.info? 27).map (·.size) = some x.length by rw [HX1.out]; exact Tryd.infoE)
      have HGK := Lib.hid (show w3.heap.size ≤ g by rw [HGE.out]; exact Nat.le_refl _)
      go_wp2_with (first
        | (refine wpList_load_elem rfl 27 _ rfl b (o + s * 16) x _ rfl HX.out Tryd.underlying27 rfl HI.out ?_)
        | (refine wpList_store_elem rfl 27 _ _ rfl rfl g g h h k (k * 16) 27 (partR L i h k) x HPL.out.symm (Nat.mul_comm _ _) rfl rfl HOK.out HPE.out hlk HX1.out HX2.out Tryd.infoE ?_))
      intro w5 ho5 hb5
      have HO5 := Lib.hid (show OwnE g 27 (.slice (some ⟨g, 0, none⟩) h h) (partR L i h (k + 1)) w5 by rw [← HPS.out]; exact ho5.out)
      have HB5 := Lib.hid (show Below w3.heap.size w3 w5 from But.toBelow HBK.out hb5.out HGK.out HBK.out.size)
      clear ho5 hb5 HOK HBK HPS HPE HPL hc hsx
      go_wp2_with fail
      exact ⟨⟨k + 1, by omega, by go_num, HO5.out, HB5.out⟩, by simp [intOf]; omega⟩
    · obtain rfl : k = h := by omega
      rw [partR_full] at HOK
      have hnw : ¬ (k : Int) < (k : Int) := by omega
      have HOR := Lib.hid (HOK.out.mono (show w2.heap.size ≤ g by rw [HGE.out]; exact HB3.out.size))
      have HBR := Lib.hid (HB3.out.trans (hbk.mono HB3.out.size))
      clear hok hbk HOK HBK
      go_wp2_with fail
      go_ret2
      exact ⟨⟨_, rfl, HOR.out⟩, HBR.out⟩
end Go.Proofs.YtgmckanjgnpbhaaDoor
