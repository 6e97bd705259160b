/-
  The developers' finish: the last bytes, with what follows them.
-/
import Derived.Test.YtlgmlnhjanjplaaDoorMix
import Derived.Test.YtlgmlnhjanjplaaDoorCopy
import Derived.Deep.Cut
namespace Go.Proofs.YtlgmlnhjanjplaaDoor
open Go.RowKit

set_option maxHeartbeats 4000000 in
set_option maxRecDepth 100000 in
theorem fin_loop {bs bb n N : Nat} {t : TypeId} {l : List Nat} {w : World}
    {ca1 ca3 ca4 ca5 ub7 ca8 ca9 ca10 ca11 ca12 ca13 ca14 ca15 ca16 ca17 ca18 ca19 ca20 ub22 ub23 ub24 ub25 ub26 ub27 ub28 ub29 ub30 ub31 ub32 ub33
    ca34 ca35 : Value}
    (hn : 8 * n = N) (hN : N < 18446744073709551616) (HLN : Hid (l.length = 64)) (HC : Hid (Blk bb t .u8 l w))
    (R : Act → World → Prop)
    (hexit : Hid (∀  (w1 : World), Blk bb t .u8 (fillL l N 8) w1 ∧ But bb w w1 → ∀ {vb7 vb21 vb22 vb23 vb24 vb25 vb26 vb27 vb28 vb29 vb30 vb31 vb32 vb33 : Value},
      R ⟨List.toArray (.pointer (some ⟨bs, 0, none⟩) :: ca1 :: .int .u64 (n : Int) :: ca3 :: ca4 :: ca5 :: .pointer (some ⟨bb, 0, none⟩) :: vb7 :: ca8 :: ca9 :: ca10 :: ca11 :: ca12 :: ca13 :: ca14 :: ca15 :: ca16 :: ca17 :: ca18 :: ca19 :: ca20 ::
      vb21 :: vb22 :: vb23 :: vb24 :: vb25 :: vb26 :: vb27 :: vb28 :: vb29 :: vb30 :: vb31 :: vb32 :: vb33 :: ca34 :: ca35 :: []), []⟩ w1)) :
    Code.wp Tryd.prog (Code.loop (loopAt Tryd.f42 0)) (Ends 0 R) ⟨List.toArray (.pointer (some ⟨bs, 0, none⟩) :: ca1 :: .int .u64 (n : Int) :: ca3 :: ca4 :: ca5 :: .pointer (some ⟨bb, 0, none⟩) :: ub7 :: ca8 :: ca9 :: ca10 :: ca11 :: ca12 :: ca13 :: ca14 :: ca15 :: ca16 :: ca17 :: ca18 :: ca19 :: ca20 ::
      .int .i64 0 :: ub22 :: ub23 :: ub24 :: ub25 :: ub26 :: ub27 :: ub28 :: ub29 :: ub30 :: ub31 :: ub32 :: ub33 :: ca34 :: ca35 :: []), []⟩ w := by
  conv => arg 2; arg 1; whnf

  have HNN := Lib.hid hn
  have hn2 : (8 : Int) * (n : Int) = (N : Int) := by omega
  have hn3 : IntKind.u64.wrap (N : Int) = (N : Int) := by rw [IntKind.wrap_u64]; omega
  clear hn
  go_loopw [21] (fun i wq => ∃ k : Nat, k ≤ 8 ∧ i = .int .i64 k ∧ Blk bb t .u8 (fillL l N k) wq ∧ But bb w wq) (fun i _ => 8 - (intOf i).toNat)
  case atStart => exact ⟨0, by omega, rfl, HC.out, But.refl _ _⟩
  case round =>
    clear HC
    obtain ⟨k, hk, rfl, ho, hb2⟩ := hrel
    have HC := Lib.hid ho
    have HB := Lib.hid hb2
    clear ho hb2
    by_cases hlk : k < 8
    · have hlen := fillL_len l N k
      rw [HLN.out] at hlen
      obtain ⟨j, hj⟩ : ∃ j, j = 63 - k := ⟨_, rfl⟩
      have c1 := HC.out.cell j (by omega)
      have hf := HC.out.frozen j
      have HS := Lib.hid (HC.out.set j (N / 2 ^ (8 * k) % 256))
      have HA := Lib.hid (show fillL l N (k + 1) = (fillL l N k).set (63 - k) (N / 2 ^ (8 * k) % 256) from rfl)
      rw [← hj] at HA
      generalize (fillL l N k).getD j 0 = x at c1
      have d1 : (63 : Int) - (k : Int) = (j : Int) := by omega
      have d2 : IntKind.i64.wrap (j : Int) = (j : Int) := by rw [IntKind.wrap_i64]; omega
      have b1 : (j : Int) < 64 := by omega
      clear hlen hj
      go_wp2_with fail
      have hv : ((N / 2 ^ (8 * k) % 256 : Nat) : Int) = (N : Int) / 2 ^ (8 * k) % 256 := by simp
      exact ⟨⟨k + 1, by omega, by go_num, by
        rw [HA.out]
        have h := HS.out
        rw [hv] at h
        exact h, HB.out.setCell _ _⟩, by simp [intOf]; omega⟩
    · obtain rfl : k = 8 := by omega
      rw [show ((8 : Nat) : Int) = 8 from rfl]
      go_wp2_with fail
      exact ends_exit (hexit.out _ ⟨HC.out, HB.out⟩)

theorem mul8_wrap {n N : Nat} (hn : 8 * n = N) (hN : N < 18446744073709551616) : n < 18446744073709551616 := by omega

set_option maxHeartbeats 4000000 in
set_option maxRecDepth 100000 in
theorem fin_short (bs : Nat) (ts : TypeId) (v : S8) (r : List UInt8) (n N : Nat) (w : World) (hv : v.Ok) (hr : r.length ≤ 55) (hn : 8 * n = N) (hN : N < 18446744073709551616)
    (hs : Blk bs ts .u32 v.list w) (hk : KAt w) :
    Calls Tryd.prog 42 #[.pointer (some ⟨bs, 0, none⟩), .string ⟨r.toArray⟩, .int .u64 n] w fun e w' =>
      e = .returned (.tuple #[]) ∧ Blk bs ts .u32 (block v (bAt (fillL (tailL r) N 8))).list w' ∧ But bs w w' := by
  have HV := Lib.hid hv
  have HS := Lib.hid hs
  have HK := Lib.hid hk
  have HN := Lib.hid hn
  have hlt := hs.lt
  have hG := hk.lt
  clear hv hs hk hn
  go_enter Tryd.func42, Tryd.ntmps42
  go_upto_region 1 with (fail)
  change Code.wp _ _ _ _ (w.alloc (.cells (nums .u8 (List.replicate 64 0)).toArray 66))
  obtain ⟨w1, hw1⟩ : ∃ x, x = w.alloc (.cells (nums .u8 (List.replicate 64 0)).toArray 66) := ⟨_, rfl⟩
  rw [← hw1]
  have hb : Below w.heap.size w w1 := by rw [hw1]; exact (Below.refl _ _).alloc (Nat.le_refl _) _
  have HC := Lib.hid (show Blk w.heap.size 66 .u8 (List.replicate 64 0) w1 by rw [hw1]; exact heap_alloc_new w _)
  have HS1 := Lib.hid (HS.out.below hb)
  have HK1 := Lib.hid (HK.out.below hb)
  have HB1 := Lib.hid ((But.refl bs w).below hb)
  clear hw1 hb HS HK
  go_wp2_with (refine wpList_copy_bytes rfl _ _ 51 9 rfl 5 Tryd.underlying51 (by kernel_rfl) w.heap.size 64 64 r (List.replicate 64 0) 66 rfl rfl rfl HC.out ?_)
  intro w2 hc hb
  have hc2 : Blk w.heap.size 66 .u8 (byteNs (r.take 64) ++ (List.replicate 64 0).drop r.length) w2 := hc.out
  have hlen : (byteNs (r.take 64) ++ (List.replicate 64 0).drop r.length).length = 64 := by simp [byteNs_len]; omega
  have c1 := hc2.cell r.length (by rw [hlen]; omega)
  have hf := hc2.frozen r.length
  have HC3 := Lib.hid (show Blk w.heap.size 66 .u8 (tailL r) (w2.setCell ⟨w.heap.size, r.length, none⟩ (.int .u8 ((128 : Nat) : Int))) from hc2.set r.length 128)
  generalize (byteNs (r.take 64) ++ (List.replicate 64 0).drop r.length).getD r.length 0 = y at c1
  have HS2 := Lib.hid (HS1.out.but hb.out (by omega))
  have HK2 := Lib.hid (HK1.out.but hb.out (by omega))
  have HB2 := Lib.hid (HB1.out.new hb.out (Nat.le_refl _))
  clear hc hc2 HC HS1 HK1 HB1 hb hlen
  go_wp2_with fail
  obtain ⟨w3, hw3⟩ : ∃ x, x = w2.setCell ⟨w.heap.size, r.length, none⟩ (.int .u8 128) := ⟨_, rfl⟩
  rw [← hw3]
  have hb3 : But w.heap.size w2 w3 := by rw [hw3]; exact (But.refl _ _).setCell _ _
  have HC := Lib.hid (show Blk w.heap.size 66 .u8 (tailL r) w3 by rw [hw3]; exact HC3.out)
  have HS3 := Lib.hid (HS2.out.but hb3 (by omega))
  have HK3 := Lib.hid (HK2.out.but hb3 (by omega))
  have HB3 := Lib.hid (HB2.out.new hb3 (Nat.le_refl _))
  clear hw3 hb3 HS2 HK2 HB2 HC3 c1 hf
  refine wp_ends (fin_loop HN.out hN (Lib.hid (tailL_len (by omega))) HC _ (Lib.hid ?_))
  rintro w4 ⟨ho, hb⟩
  intros
  have HC4 := Lib.hid ho
  have HS4 := Lib.hid (HS3.out.but hb (by omega))
  have HK4 := Lib.hid (HK3.out.but hb (by omega))
  have HB4 := Lib.hid (HB3.out.new hb (Nat.le_refl _))
  clear ho hb HC HS3 HK3 HB3
  go_wp2_with fail
  refine (mix_any bs w.heap.size ts 66 v _ w4 HV.out (by rw [fillL_len, tailL_len (by omega)]) (fillL_lt (tailL_lt r) N 8) HS4.out HC4.out HK4.out).mono ?_
  rintro e w5 ⟨rfl, hs5, hb5⟩
  have HS5 := Lib.hid hs5
  have HB5 := Lib.hid (HB4.out.trans hb5)
  clear hs5 hb5 HS4 HK4 HB4 HC4
  go_wp2_with fail
  exact bodyPost_end (results_none rfl _ _ _) rfl ⟨rfl, HS5.out, HB5.out⟩

set_option maxHeartbeats 4000000 in
set_option maxRecDepth 100000 in
theorem fin_long (bs : Nat) (ts : TypeId) (v : S8) (r : List UInt8) (n N : Nat) (w : World) (hv : v.Ok) (hr : 56 ≤ r.length) (hr2 : r.length ≤ 63) (hn : 8 * n = N) (hN : N < 18446744073709551616)
    (hs : Blk bs ts .u32 v.list w) (hk : KAt w) (hGb : 0 ≠ bs) :
    Calls Tryd.prog 42 #[.pointer (some ⟨bs, 0, none⟩), .string ⟨r.toArray⟩, .int .u64 n] w fun e w' =>
      e = .returned (.tuple #[]) ∧ Blk bs ts .u32 (block (block v (bAt (tailL r))) (bAt (fillL (List.replicate 64 0) N 8))).list w' ∧ But bs w w' := by
  have HV := Lib.hid hv
  have HS := Lib.hid hs
  have HK := Lib.hid hk
  have HN := Lib.hid hn
  have hlt := hs.lt
  have hG := hk.lt
  clear hv hs hk hn
  go_enter Tryd.func42, Tryd.ntmps42
  go_upto_region 1 with (fail)
  change Code.wp _ _ _ _ (w.alloc (.cells (nums .u8 (List.replicate 64 0)).toArray 66))
  obtain ⟨w1, hw1⟩ : ∃ x, x = w.alloc (.cells (nums .u8 (List.replicate 64 0)).toArray 66) := ⟨_, rfl⟩
  rw [← hw1]
  have hb : Below w.heap.size w w1 := by rw [hw1]; exact (Below.refl _ _).alloc (Nat.le_refl _) _
  have HC := Lib.hid (show Blk w.heap.size 66 .u8 (List.replicate 64 0) w1 by rw [hw1]; exact heap_alloc_new w _)
  have HS1 := Lib.hid (HS.out.below hb)
  have HK1 := Lib.hid (HK.out.below hb)
  have HB1 := Lib.hid ((But.refl bs w).below hb)
  clear hw1 hb HS HK
  go_wp2_with (refine wpList_copy_bytes rfl _ _ 51 9 rfl 5 Tryd.underlying51 (by kernel_rfl) w.heap.size 64 64 r (List.replicate 64 0) 66 rfl rfl rfl HC.out ?_)
  intro w2 hc hb
  have hc2 : Blk w.heap.size 66 .u8 (byteNs (r.take 64) ++ (List.replicate 64 0).drop r.length) w2 := hc.out
  have hlen : (byteNs (r.take 64) ++ (List.replicate 64 0).drop r.length).length = 64 := by simp [byteNs_len]; omega
  have c1 := hc2.cell r.length (by rw [hlen]; omega)
  have hf := hc2.frozen r.length
  have HC3 := Lib.hid (show Blk w.heap.size 66 .u8 (tailL r) (w2.setCell ⟨w.heap.size, r.length, none⟩ (.int .u8 ((128 : Nat) : Int))) from hc2.set r.length 128)
  generalize (byteNs (r.take 64) ++ (List.replicate 64 0).drop r.length).getD r.length 0 = y at c1
  have HS2 := Lib.hid (HS1.out.but hb.out (by omega))
  have HK2 := Lib.hid (HK1.out.but hb.out (by omega))
  have HB2 := Lib.hid (HB1.out.new hb.out (Nat.le_refl _))
  clear hc hc2 HC HS1 HK1 HB1 hb hlen
  go_wp2_with fail
  obtain ⟨w3, hw3⟩ : ∃ x, x = w2.setCell ⟨w.heap.size, r.length, none⟩ (.int .u8 128) := ⟨_, rfl⟩
  rw [← hw3]
  have hb3 : But w.heap.size w2 w3 := by rw [hw3]; exact (But.refl _ _).setCell _ _
  have HC := Lib.hid (show Blk w.heap.size 66 .u8 (tailL r) w3 by rw [hw3]; exact HC3.out)
  have HS3 := Lib.hid (HS2.out.but hb3 (by omega))
  have HK3 := Lib.hid (HK2.out.but hb3 (by omega))
  have HB3 := Lib.hid (HB2.out.new hb3 (Nat.le_refl _))
  clear hw3 hb3 HS2 HK2 HB2 HC3 c1 hf
  refine (mix_any bs w.heap.size ts 66 v _ w3 HV.out (tailL_len (by omega)) (tailL_lt r) HS3.out HC.out HK3.out).mono ?_
  rintro e w4 ⟨rfl, hs4, hb4⟩
  have HC4 := Lib.hid (HC.out.but hb4 (by omega))
  have HK4 := Lib.hid (HK3.out.but hb4 hGb)
  have HS4 := Lib.hid hs4
  have HB4 := Lib.hid (HB3.out.trans hb4)
  clear hs4 hb4 HC HS3 HK3 HB3
  go_wp2_with (refine wpList_store_nums rfl 66 _ _ rfl rfl w.heap.size .u8 _ (List.replicate 64 0) 66 rfl rfl HC4.out (by rw [List.length_replicate]; exact Tryd.infoB) (by rw [tailL_len (by omega), List.length_replicate]) ?_)
  intro w5 hc hb
  have HC5 := Lib.hid (show Blk w.heap.size 66 .u8 (List.replicate 64 0) w5 from hc.out)
  have HS5 := Lib.hid (HS4.out.but hb.out (by omega))
  have HK5 := Lib.hid (HK4.out.but hb.out (by omega))
  have HB5 := Lib.hid (HB4.out.new hb.out (Nat.le_refl _))
  clear hc hb HC4 HS4 HK4 HB4
  go_wp2_with fail
  refine wp_ends (fin_loop HN.out hN (Lib.hid (List.length_replicate)) HC5 _ (Lib.hid ?_))
  rintro w6 ⟨ho, hb⟩
  intros
  have HC6 := Lib.hid ho
  have HS6 := Lib.hid (HS5.out.but hb (by omega))
  have HK6 := Lib.hid (HK5.out.but hb (by omega))
  have HB6 := Lib.hid (HB5.out.new hb (Nat.le_refl _))
  clear ho hb HC5 HS5 HK5 HB5
  go_wp2_with fail
  refine (mix_any bs w.heap.size ts 66 (block v (bAt (tailL r))) _ w6 (block_ok _ _) (by rw [fillL_len, List.length_replicate]) (fillL_lt (by intro x hx; have := List.eq_of_mem_replicate hx; omega) N 8) HS6.out HC6.out HK6.out).mono ?_
  rintro e w7 ⟨rfl, hs7, hb7⟩
  have HS7 := Lib.hid hs7
  have HB7 := Lib.hid (HB6.out.trans hb7)
  clear hs7 hb7 HS6 HK6 HB6 HC6
  go_wp2_with fail
  exact bodyPost_end (results_none rfl _ _ _) rfl ⟨rfl, HS7.out, HB7.out⟩
end Go.Proofs.YtlgmlnhjanjplaaDoor
