/-
  The developers' Leaf and Sign.
-/
import Derived.Test.YtlgmlnhjanjplaaDoorOnceE
namespace Go.Proofs.YtlgmlnhjanjplaaDoor
open Go.RowKit Go.BigFrame

/-- The steps while they are set: k of them. -/
def lastL (k : Nat) : List Nat := List.replicate k 15 ++ List.replicate (35 - k) 0
theorem lastL_len {k : Nat} (hk : k ≤ 35) : (lastL k).length = 35 := by simp [lastL]; omega
theorem lastL_set {k : Nat} (hk : k < 35) : (lastL k).set k 15 = lastL (k + 1) := by
  unfold lastL
  rw [List.set_append_right _ _ (by simp), List.length_replicate, Nat.sub_self, show 35 - k = (35 - (k + 1)) + 1 by omega, List.replicate_succ, List.set_cons_zero, List.replicate_succ', List.append_assoc]
  rfl
theorem last_row (seed : List UInt8) (i : Int) : rowE (toF seed i (lastL 35)) 35 = rowE (endF seed i) 35 := by
  refine rowE_congr fun j hj => ?_
  have h : ∀ j : Fin 35, (lastL 35).getD j.val 0 = 15 := by decide
  have e : (lastL 35).getD j 0 = 15 := h ⟨j, hj⟩
  rw [toF, e, endF]
  rfl

set_option maxHeartbeats 4000000 in
set_option maxRecDepth 100000 in
theorem dev_leaf (seed : List UInt8) (i : Int) (w : World) (hs : seed.length ≤ 4000) (hi0 : -9223372036854775808 ≤ i) (hi : i ≤ 9223372036854775807) (hk : KAt w) :
    Calls Tryd.prog 11 #[.string ⟨seed.toArray⟩, .int .i64 i] w fun e w' => e = .returned (.agg (nums .u8 (leafN seed i)).toArray) ∧ Below w.heap.size w w' := by
  have HS := Lib.hid hs
  have HK := Lib.hid hk
  have HI0 := Lib.hid hi0
  have HI1 := Lib.hid hi
  clear hs hk hi0 hi
  go_enter Tryd.func11, Tryd.ntmps11
  go_upto_region 2 with (fail)
  change Code.wp _ _ _ _ ((w.alloc (.cells (nums .u8 (List.replicate 16 0)).toArray 24)).alloc (.cells (nums .i64 (List.replicate 35 0)).toArray 39))
  obtain ⟨w1, hw1⟩ : ∃ x', x' = (w.alloc (.cells (nums .u8 (List.replicate 16 0)).toArray 24)).alloc (.cells (nums .i64 (List.replicate 35 0)).toArray 39) := ⟨_, rfl⟩
  rw [← hw1]
  have h3 : Cells w.heap.size 24 (nums .u8 (List.replicate 16 0)).toArray w1 ∧ Blk (w.heap.size + 1) 39 .i64 (List.replicate 35 0) w1 ∧ Below w.heap.size w w1 := by rw [hw1]; exact cells_nums_new w _ _ _ _ _
  obtain ⟨hx1, hr1, hb1⟩ := h3
  have HX1 := Lib.hid (show Blk w.heap.size 24 .u8 (List.replicate 16 0) w1 from hx1)
  have HD1 := Lib.hid hr1
  have HB1 := Lib.hid hb1
  have HK1 := Lib.hid (HK.out.below hb1)
  have HKL := Lib.hid (HK.out.lt)
  obtain ⟨gd, hgd⟩ : ∃ g, g = w.heap.size + 1 := ⟨_, rfl⟩
  rw [← hgd] at HD1 ⊢
  have HGD := Lib.hid hgd
  clear hx1 hr1 hb1 hw1 HK hgd
  go_wp2_with fail
  go_loopw [7] (fun n wq => ∃ k : Nat, k ≤ 35 ∧ n = .int .i64 k ∧ Blk gd 39 .i64 (lastL k) wq ∧ But gd w1 wq) (fun n _ => 35 - (intOf n).toNat)
  case atStart => exact ⟨0, by omega, rfl, HD1.out, But.refl _ _⟩
  case round =>
    clear HD1
    obtain ⟨k, hk, rfl, hc, hb⟩ := hrel
    have HC := Lib.hid hc
    have HB := Lib.hid hb
    clear hc hb
    by_cases hlk : k < 35
    · have HLL := Lib.hid (lastL_len hk)
      have HLS := Lib.hid (lastL_set hlk)
      generalize lastL k = L at *
      have c1 := HC.out.cell k (by rw [HLL.out]; omega)
      have f1 := HC.out.frozen k
      have HS3 := Lib.hid (HC.out.set k 15)
      rw [HLS.out] at HS3
      generalize L.getD k 0 = z at c1
      clear HLS
      go_wp2_with fail
      exact ⟨⟨k + 1, by omega, by go_num, HS3.out, HB.out.setCell _ _⟩, by simp [intOf]; omega⟩
    · obtain rfl : k = 35 := by omega
      have HXr := Lib.hid (HX1.out.but HB.out (by have := HGD.out; omega))
      have HKr := Lib.hid (HK1.out.but HB.out (by have := HGD.out; have := HKL.out; omega))
      have HBr := Lib.hid (show Below w.heap.size w wr from But.toBelow HB1.out HB.out (by have := HGD.out; omega) HB1.out.size)
      have HLL := Lib.hid (lastL_len (Nat.le_refl 35))
      have LLT := Lib.hid (show ∀ d ∈ lastL 35, d < 16 by decide)
      have HLR := Lib.hid (last_row seed i)
      clear HX1 HB1 HK1 HB
      generalize lastL 35 = L at *
      have HIL := Lib.hid (show (Tryd.prog.info? 39).map (·.size) = some L.length by rw [HLL.out]; exact Tryd.infoDg)
      go_wp2_with (refine wpList_load_nums rfl 39 _ rfl gd .i64 _ 39 _ rfl HC.out Tryd.underlying39 rfl HIL.out ?_)
      refine (dev_reach seed i L _ HS.out HI0.out HI1.out HLL.out LLT.out HKr.out).mono ?_
      rintro e w2 ⟨rfl, hb2⟩
      rw [HLR.out]
      have HX2 := Lib.hid (HXr.out.below hb2)
      have HB2 := Lib.hid (HBr.out.trans (hb2.mono HBr.out.size))
      have HK2 := Lib.hid (HKr.out.below hb2)
      have HEL := Lib.hid (show (rowE (endF seed i) 35).length ≤ 4000 by rw [rowE_len (endF_len seed i)]; decide)
      have HLF := Lib.hid (show keyN (rowE (endF seed i) 35) i = leafN seed i from rfl)
      generalize rowE (endF seed i) 35 = E at *
      clear hb2 HXr HBr HKr HC HIL HLL LLT HLR
      go_wp2_with fail
      refine (dev_key E i _ HEL.out HI0.out HI1.out HK2.out).mono ?_
      rintro e w4 ⟨rfl, hb4⟩
      rw [HLF.out]
      have HR4 := Lib.hid (HX2.out.below hb4)
      have HB4 := Lib.hid (HB2.out.trans (hb4.mono HB2.out.size))
      have HNL := Lib.hid (show (leafN seed i).length = 16 from keyN_len _ _)
      clear hb4 HX2 HB2 HK2 HEL HLF
      obtain ⟨N, hN⟩ : ∃ N, leafN seed i = N := ⟨_, rfl⟩
      rw [hN] at HNL ⊢
      have HN := Lib.hid hN
      clear hN
      have HI := Lib.hid (show (Tryd.prog.info? 24).map (·.size) = some N.length by rw [HNL.out]; exact Tryd.infoE)
      have HL2 := Lib.hid (show (List.replicate 16 0).length = N.length by rw [HNL.out]; rfl)
      go_wp2_with (refine wpList_store_nums rfl 24 _ _ rfl rfl w.heap.size .u8 _ N 24 rfl rfl HR4.out HI.out HL2.out ?_)
      intro w7 hc' hb'
      have HC7 := Lib.hid (show Blk w.heap.size 24 .u8 N w7 from hc'.out)
      have HB7 := Lib.hid (show Below w.heap.size w w7 from But.toBelow HB4.out hb'.out (by omega) HB4.out.size)
      clear hc' hb'
      go_wp2_with fail
      exact bodyPost_ret (results_nums rfl _ _ w.heap.size .u8 _ 24 _ rfl HC7.out Tryd.underlying24 rfl HI.out) rfl ⟨by rw [HN.out], HB7.out⟩

set_option maxHeartbeats 4000000 in
set_option maxRecDepth 100000 in
theorem dev_sign (seed : List UInt8) (i : Int) (d : List Nat) (w : World) (hs : seed.length ≤ 4000) (hi0 : -9223372036854775808 ≤ i) (hi : i ≤ 9223372036854775807) (hd : d.length = 16) (ld : ∀ y ∈ d, y < 256) (hk : KAt w) :
    Calls Tryd.prog 13 #[.string ⟨seed.toArray⟩, .int .i64 i, .agg (nums .u8 d).toArray] w fun e w' => e = .returned (.string ⟨(signN seed i d).toArray⟩) ∧ Below w.heap.size w w' := by
  have HS := Lib.hid hs
  have HK := Lib.hid hk
  have HD := Lib.hid hd
  have LD := Lib.hid ld
  have HI0 := Lib.hid hi0
  have HI1 := Lib.hid hi
  clear hs hk hi0 hi hd ld
  go_enter Tryd.func13, Tryd.ntmps13
  go_upto_region 1 with (fail)
  obtain ⟨w1, hw1⟩ : ∃ x', x' = w.alloc (.cells (nums .u8 d).toArray 24) := ⟨_, rfl⟩
  rw [← hw1]
  have hb1 : Below w.heap.size w w1 := by rw [hw1]; exact (Below.refl _ _).alloc (Nat.le_refl _) _
  have HD1 := Lib.hid (show Blk w.heap.size 24 .u8 d w1 by rw [hw1]; exact heap_alloc_new w _)
  have HB1 := Lib.hid hb1
  have HK1 := Lib.hid (HK.out.below hb1)
  have HI := Lib.hid (show (Tryd.prog.info? 24).map (·.size) = some d.length by rw [HD.out]; exact Tryd.infoE)
  clear hb1 hw1 HK
  go_wp2_with (refine wpList_load_nums rfl 24 _ rfl w.heap.size .u8 _ 24 _ rfl HD1.out Tryd.underlying24 rfl HI.out ?_)
  refine (dev_digits d _ HD.out LD.out).mono ?_
  rintro e w2 ⟨rfl, hb2⟩
  have HB2 := Lib.hid (HB1.out.trans (hb2.mono HB1.out.size))
  have HK2 := Lib.hid (HK1.out.below hb2)
  clear hb2 HB1 HK1 HD1
  go_wp2_with fail
  refine (dev_reach seed i (digN d) _ HS.out HI0.out HI1.out (digN_len HD.out) (digN_lt HD.out LD.out) HK2.out).mono ?_
  rintro e w3 ⟨rfl, hb3⟩
  rw [show rowE (toF seed i (digN d)) 35 = signN seed i d from rfl]
  have HB3 := Lib.hid (HB2.out.trans (hb3.mono HB2.out.size))
  clear hb3
  go_wp2_with fail
  go_ret
  exact ⟨rfl, HB3.out⟩
end Go.Proofs.YtlgmlnhjanjplaaDoor
