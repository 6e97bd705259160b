/-
  The document's At, Same, Climb, Path.
-/
import Derived.Test.YtgmckanjgnpbhaaDoorUp
import Derived.Test.YtgmckanjgnpbhaaDoorOnes
import Derived.Test.YtgmckanjgnpbhaaDoorElems
namespace Go.Proofs.YtgmckanjgnpbhaaDoor
open Go.RowKit Go.BigFrame

set_option maxHeartbeats 1000000 in
set_option maxRecDepth 100000 in
theorem ref_at (L : List (List Nat)) (ao : Option Addr) (cap : Nat) (hL : Elems L) (hn : L.length ≤ 256) : ∀ (k i : Nat) (w : World), EAt ao L w → (i + 1) * 2 ^ k ≤ L.length → k ≤ 8 →
    Calls Tryd.prog 13 #[.slice ao L.length cap, .int .i64 k, .int .i64 i] w fun e w' => e = .returned (.agg (nums .u8 (atN L k i)).toArray) ∧ Below w.heap.size w w' := by
  intro k
  induction k with
  | zero =>
    intro i w hE hi _
    have hi2 : i < L.length := by simp only [Nat.pow_zero, Nat.mul_one] at hi; omega
    obtain ⟨b, o, rfl, hb⟩ := hE.some (by omega)
    have HC := Lib.hid (hE.get hi2)
    obtain ⟨hx1, hx2⟩ := hL.getD hi2
    have HX := Lib.hid hx1
    have HEQ := Shut.mk (show atN L 0 i = L.getD i [] from rfl)
    obtain ⟨x, hx⟩ : ∃ x, L.getD i [] = x := ⟨_, rfl⟩
    rw [hx] at HC HEQ HX
    clear hx1 hx2 hx hi
    go_enter Tryd.func13, Tryd.ntmps13
    go_upto_region 1 with (fail)
    change Code.wp _ _ _ _ (w.alloc (.cells (nums .u8 (List.replicate 16 0)).toArray 27))
    obtain ⟨w1, hw1⟩ : ∃ x', x' = w.alloc (.cells (nums .u8 (List.replicate 16 0)).toArray 27) := ⟨_, rfl⟩
    rw [← hw1]
    have hb1 : Below w.heap.size w w1 := by rw [hw1]; exact (Below.refl _ _).alloc (Nat.le_refl _) _
    have HR1 := Lib.hid (show Blk w.heap.size 27 .u8 (List.replicate 16 0) w1 by rw [hw1]; exact heap_alloc_new w _)
    have HB1 := Lib.hid hb1
    clear hw1 hb1
    have HC1 := Lib.hid (rangeAt_below HC.out HB1.out hb)
    have HI := Lib.hid (show (Tryd.prog.info? 27).map (·.size) = some x.length by rw [HX.out]; exact Tryd.infoE)
    have HL2 := Lib.hid (show (List.replicate 16 0).length = x.length by rw [HX.out]; rfl)
    obtain ⟨g, hg⟩ : ∃ g, g = w.heap.size := ⟨_, rfl⟩
    rw [← hg] at HR1 ⊢
    have HG := Lib.hid (show w.heap.size ≤ g by omega)
    clear hg HC
    go_wp2_with (first
      | (refine wpList_load_elem rfl 27 _ rfl b (o + i * 16) x _ rfl HC1.out Tryd.underlying27 rfl HI.out ?_)
      | (refine wpList_store_nums rfl 27 _ _ rfl rfl g .u8 _ x 27 rfl rfl HR1.out HI.out HL2.out ?_))
    intro w7 hc' hb'
    have HC7 := Lib.hid (show Blk g 27 .u8 x w7 from hc'.out)
    have HB7 := Lib.hid (show Below w.heap.size w w7 from But.toBelow HB1.out hb'.out HG.out HB1.out.size)
    clear hc' hb'
    go_wp2_with fail
    exact bodyPost_ret (results_nums rfl _ _ g .u8 _ 27 _ rfl HC7.out Tryd.underlying27 rfl HI.out) rfl ⟨by rw [HEQ.out], HB7.out⟩
  | succ k ih =>
    intro i w hE hi hk
    have hi3 : (2 * i + 1 + 1) * 2 ^ k ≤ L.length := by
      rw [Nat.pow_succ] at hi
      rw [show 2 * i + 1 + 1 = (i + 1) * 2 by omega, Nat.mul_assoc, Nat.mul_comm 2]
      exact hi
    have hi4 : (2 * i + 1) * 2 ^ k ≤ L.length := Nat.le_trans (Nat.mul_le_mul_right _ (by omega)) hi3
    have hi5 : 2 * i + 2 ≤ 256 := by
      have := Nat.le_trans (Nat.le_mul_of_pos_right (2 * i + 1 + 1) (Nat.two_pow_pos k)) hi3
      omega
    have IH1 := Lib.hid (fun w hE => ih (2 * i) w hE hi4 (by omega))
    have IH2 := Lib.hid (fun w hE => ih (2 * i + 1) w hE hi3 (by omega))
    obtain ⟨hx1, hx2⟩ := atN_ok hL k (2 * i) (Nat.lt_of_lt_of_le (Nat.mul_lt_mul_of_pos_right (Nat.lt_succ_self _) (Nat.two_pow_pos k)) hi4)
    obtain ⟨hy1, hy2⟩ := atN_ok hL k (2 * i + 1) (Nat.lt_of_lt_of_le (Nat.mul_lt_mul_of_pos_right (Nat.lt_succ_self _) (Nat.two_pow_pos k)) hi3)
    have HEQ := Shut.mk (show atN L (k + 1) i = upN (atN L k (2 * i)) (atN L k (2 * i + 1)) ((k + 1 : Nat) : Int) (i : Int) from rfl)
    have HE := Lib.hid hE
    obtain ⟨x, hx⟩ : ∃ x, atN L k (2 * i) = x := ⟨_, rfl⟩
    obtain ⟨y, hy⟩ : ∃ x, atN L k (2 * i + 1) = x := ⟨_, rfl⟩
    rw [hx] at hx1 hx2 HEQ IH1
    rw [hy] at hy1 hy2 HEQ IH2
    have HX1 := Lib.hid hx1
    have HX2 := Lib.hid hx2
    have HY1 := Lib.hid hy1
    have HY2 := Lib.hid hy2
    have hUL := upN_len x y ((k + 1 : Nat) : Int) (i : Int)
    clear ih hi hi3 hi4 hE hx hy hx1 hx2 hy1 hy2
    go_enter Tryd.func13, Tryd.ntmps13
    go_upto_region 1 with (fail)
    change Code.wp _ _ _ _ (w.alloc (.cells (nums .u8 (List.replicate 16 0)).toArray 27))
    obtain ⟨w1, hw1⟩ : ∃ x', x' = w.alloc (.cells (nums .u8 (List.replicate 16 0)).toArray 27) := ⟨_, rfl⟩
    rw [← hw1]
    have hb1 : Below w.heap.size w w1 := by rw [hw1]; exact (Below.refl _ _).alloc (Nat.le_refl _) _
    have HR1 := Lib.hid (show Blk w.heap.size 27 .u8 (List.replicate 16 0) w1 by rw [hw1]; exact heap_alloc_new w _)
    have HB1 := Lib.hid hb1
    have HE1 := Lib.hid (HE.out.below hb1)
    obtain ⟨g, hg⟩ : ∃ g, g = w.heap.size := ⟨_, rfl⟩
    rw [← hg] at HR1 ⊢
    have HG := Lib.hid (show w.heap.size ≤ g by omega)
    clear hg hw1 hb1 HE
    have hk1 : (((k + 1 : Nat) : Int)) - 1 = (k : Int) := by omega
    go_wp2_with fail
    have c1 := IH1.out w1 HE1.out
    rw [show ((2 * i : Nat) : Int) = 2 * (i : Int) by omega] at c1
    refine c1.mono ?_
    rintro e w2 ⟨rfl, hb2⟩
    have HR2 := Lib.hid (HR1.out.below hb2)
    have HB2 := Lib.hid (HB1.out.trans (hb2.mono HB1.out.size))
    have HE2 := Lib.hid (HE1.out.below hb2)
    clear hb2 HR1 HB1 HE1 c1 IH1
    go_wp2_with fail
    have c2 := IH2.out w2 HE2.out
    rw [show ((2 * i + 1 : Nat) : Int) = 2 * (i : Int) + 1 by omega] at c2
    refine c2.mono ?_
    rintro e w3 ⟨rfl, hb3⟩
    have HR3 := Lib.hid (HR2.out.below hb3)
    have HB3 := Lib.hid (HB2.out.trans (hb3.mono HB2.out.size))
    clear hb3 HR2 HB2 HE2 c2 IH2
    go_wp2_with fail
    refine (ref_up x y ((k + 1 : Nat) : Int) (i : Int) w3 HX1.out HX2.out HY1.out HY2.out (by omega) (by omega) (by omega) (by omega)).mono ?_
    rintro e w4 ⟨rfl, hb4⟩
    have HR4 := Lib.hid (HR3.out.below hb4)
    have HB4 := Lib.hid (HB3.out.trans (hb4.mono HB3.out.size))
    clear hb4 HR3 HB3
    rw [← HEQ.out] at hUL ⊢
    obtain ⟨U, hU⟩ : ∃ U, atN L (k + 1) i = U := ⟨_, rfl⟩
    rw [hU] at hUL ⊢
    have HUL := Lib.hid hUL
    have HUE := Shut.mk hU
    clear hU hUL
    have HI := Lib.hid (show (Tryd.prog.info? 27).map (·.size) = some U.length by rw [HUL.out]; exact Tryd.infoE)
    have HL2 := Lib.hid (show (List.replicate 16 0).length = U.length by rw [HUL.out]; rfl)
    go_wp2_with (refine wpList_store_nums rfl 27 _ _ rfl rfl g .u8 _ U 27 rfl rfl HR4.out HI.out HL2.out ?_)
    intro w7 hc' hb'
    have HC7 := Lib.hid (show Blk g 27 .u8 U w7 from hc'.out)
    have HB7 := Lib.hid (show Below w.heap.size w w7 from But.toBelow HB4.out hb'.out HG.out HB4.out.size)
    clear hc' hb'
    go_wp2_with fail
    exact bodyPost_ret (results_nums rfl _ _ g .u8 _ 27 _ rfl HC7.out Tryd.underlying27 rfl HI.out) rfl ⟨by rw [HUE.out], HB7.out⟩

/-- Are two rows the same? -/
theorem elems_ext {L M : List (List Nat)} (h : L.length = M.length) (hg : ∀ i, i < L.length → L.getD i [] = M.getD i []) : L = M := by
  refine List.ext_getElem h fun i h1 h2 => ?_
  have := hg i h1
  rw [List.getD_eq_getElem?_getD, List.getD_eq_getElem?_getD, List.getElem?_eq_getElem h1, List.getElem?_eq_getElem h2] at this
  exact this
set_option maxHeartbeats 1000000 in
set_option maxRecDepth 100000 in
theorem ref_same (L M : List (List Nat)) (ao bo : Option Addr) (cap dap : Nat) (w : World) (hL : Elems L) (hM : Elems M) (hE : EAt ao L w) (hF : EAt bo M w) (hn : L.length ≤ 9000000000000) :
    Calls Tryd.prog 15 #[.slice ao L.length cap, .slice bo M.length dap] w fun e w' => e = .returned (.bool (decide (L = M))) ∧ Below w.heap.size w w' := by
  have LE := Lib.hid hL
  have ME := Lib.hid hM
  have HE := Lib.hid hE
  have HF := Lib.hid hF
  obtain ⟨D, hD⟩ : ∃ D, decide (L = M) = D := ⟨_, rfl⟩
  rw [hD]
  have HD := Shut.mk hD
  clear hL hM hE hF hD
  go_enter Tryd.func15, Tryd.ntmps15
  by_cases hlen : L.length = M.length
  · have hl2 : ((L.length : Int) != M.length) = false := by rw [hlen]; simp
    go_wp2_with fail
    go_loopw [13] (fun n wq => ∃ k : Nat, k ≤ L.length ∧ n = .int .i64 k ∧ Hid (∀ i, i < k → L.getD i [] = M.getD i []) ∧ Below w.heap.size w wq) (fun n _ => L.length - (intOf n).toNat)
    case atStart => exact ⟨0, by omega, rfl, Lib.hid (fun i hi => by omega), Below.refl _ _⟩
    case round =>
      obtain ⟨k, hk, rfl, HA, hb⟩ := hrel
      by_cases hlk : k < L.length
      · have hlm : k < M.length := by omega
        have HB := Lib.hid hb
        obtain ⟨b1, o1, rfl, hb1⟩ := HE.out.some (by omega)
        obtain ⟨b2, o2, rfl, hb2⟩ := HF.out.some (by omega)
        have HX := Lib.hid (rangeAt_below (HE.out.get hlk) hb hb1)
        have HY := Lib.hid (rangeAt_below (HF.out.get hlm) hb hb2)
        have HB1 := Lib.hid (show b1 < wr.heap.size from Nat.lt_of_lt_of_le hb1 hb.size)
        have HB2 := Lib.hid (show b2 < wr.heap.size from Nat.lt_of_lt_of_le hb2 hb.size)
        obtain ⟨hx1, hx2⟩ := LE.out.getD hlk
        obtain ⟨hy1, hy2⟩ := ME.out.getD hlm
        have HXY := Lib.hid (show ∀ i, i < k + 1 → L.getD k [] = M.getD k [] → L.getD i [] = M.getD i [] from fun i hi e => by
          rcases (by omega : i < k ∨ i = k) with h | rfl
          · exact HA.out i h
          · exact e)
        have HNE := Lib.hid (show L.getD k [] ≠ M.getD k [] → D = false from fun hne => HD.out.symm.trans (decide_eq_false (fun e => hne (by rw [e]))))
        obtain ⟨x, hx⟩ : ∃ x, L.getD k [] = x := ⟨_, rfl⟩
        obtain ⟨y, hy⟩ : ∃ y, M.getD k [] = y := ⟨_, rfl⟩
        rw [hx] at hx1 hx2 HX HXY HNE
        rw [hy] at hy1 hy2 HY HXY HNE
        have heq := fun w => equal_elem x y hx1 hy1 hx2 hy2 w
        have HI1 := Lib.hid (show (Tryd.prog.info? 27).map (·.size) = some x.length by rw [hx1]; exact Tryd.infoE)
        have HI2 := Lib.hid (show (Tryd.prog.info? 27).map (·.size) = some y.length by rw [hy1]; exact Tryd.infoE)
        have HP1 := Lib.hid (show (x == y) = true → x = y from fun h => by simpa using h)
        have HP2 := Lib.hid (show (x == y) = false → x ≠ y from fun h => by simpa using h)
        clear hx hy hx1 hx2 hy1 hy2 hb hb1 hb2 HA HE HF LE ME
        generalize (x == y) = p at heq HP1 HP2
        go_upto_region 6 with (fail)
        cases p
        · have HQ := Shut.mk (HNE.out (HP2.out rfl))
          clear HP1 HP2 HXY HNE
          refine wp_region_class (fun w' => Below wr.heap.size wr w') (by kernel_rfl) (by kernel_rfl) (Below.refl _ _).drew ?_
          repeat (first
            | (go_big_quiet_want; refine quiet_load_elem 27 _ rfl b1 (o1 + k * 16) x _ rfl (fun w' h => rangeAt_below HX.out h HB1.out) Tryd.underlying27 rfl HI1.out ?_; go_big_quiet_on; simp only [Act.put, List.setIfInBounds_toArray, List.set_cons_zero, List.set_cons_succ])
            | (go_big_quiet_want; refine quiet_load_elem 27 _ rfl b2 (o2 + k * 16) y _ rfl (fun w' h => rangeAt_below HY.out h HB2.out) Tryd.underlying27 rfl HI2.out ?_; go_big_quiet_on; simp only [Act.put, List.setIfInBounds_toArray, List.set_cons_zero, List.set_cons_succ])
            | go_big_quiet_step ((intro hs'; rfl)))
          refine wpQuiet_nil ?_
          intro w2 hs2
          have HB3 := Lib.hid (HB.out.trans (hs2.mono HB.out.size))
          clear hs2
          go_wp2_with fail
          go_ret
          exact ⟨by rw [HQ.out]; rfl, HB3.out⟩
        · have HQ := Lib.hid (fun i hi => HXY.out i hi (HP1.out rfl))
          clear HP1 HP2 HXY HNE
          refine wp_region_class (fun w' => Below wr.heap.size wr w') (by kernel_rfl) (by kernel_rfl) (Below.refl _ _).drew ?_
          repeat (first
            | (go_big_quiet_want; refine quiet_load_elem 27 _ rfl b1 (o1 + k * 16) x _ rfl (fun w' h => rangeAt_below HX.out h HB1.out) Tryd.underlying27 rfl HI1.out ?_; go_big_quiet_on; simp only [Act.put, List.setIfInBounds_toArray, List.set_cons_zero, List.set_cons_succ])
            | (go_big_quiet_want; refine quiet_load_elem 27 _ rfl b2 (o2 + k * 16) y _ rfl (fun w' h => rangeAt_below HY.out h HB2.out) Tryd.underlying27 rfl HI2.out ?_; go_big_quiet_on; simp only [Act.put, List.setIfInBounds_toArray, List.set_cons_zero, List.set_cons_succ])
            | go_big_quiet_step ((intro hs'; rfl)))
          refine wpQuiet_nil ?_
          intro w2 hs2
          have HB3 := Lib.hid (HB.out.trans (hs2.mono HB.out.size))
          clear hs2
          go_wp2_with fail
          exact ⟨⟨k + 1, by omega, by go_num, HQ, HB3.out⟩, by simp [intOf]; omega⟩
      · obtain rfl : k = L.length := by omega
        have HD := Shut.mk (show D = true from HD.out.symm.trans (decide_eq_true (elems_ext hlen HA.out)))
        have HB := Lib.hid hb
        clear hb HA
        go_wp2_with fail
        go_ret
        exact ⟨by rw [HD.out]; rfl, HB.out⟩
  · have hl2 : ((L.length : Int) != M.length) = true := by simp; omega
    have HD := Shut.mk (show D = false from HD.out.symm.trans (decide_eq_false (fun e => hlen (by rw [e]))))
    go_wp2_with fail
    go_ret
    exact ⟨by rw [HD.out]; rfl, Below.refl _ _⟩
end Go.Proofs.YtgmckanjgnpbhaaDoor
