/-
  The developers' Of: its answer is the digest as plain mathematics says it.
-/
import Derived.Test.YtlgmlnhjanjplaaDoorPad
import Derived.Test.YtlgmlnhjanjplaaDoorDigest
import Derived.Test.YtlgmlnhjanjplaaDoorFin
namespace Go.Proofs.YtlgmlnhjanjplaaDoor
open Go.RowKit

def strN : Value → Nat
  | .string b => b.size
  | _ => 0

set_option maxHeartbeats 4000000 in
set_option maxRecDepth 100000 in
theorem dev_of (s : List UInt8) (w : World) (hm : s.length ≤ 140737488350000) (hk : KAt w) :
    Calls Tryd.prog 33 #[.string ⟨s.toArray⟩] w fun e w' => e = .returned (.agg (nums .u8 (shaN s)).toArray) ∧ Below w.heap.size w w' := by
  have HK := Lib.hid hk
  have hG := hk.lt
  clear hk
  go_enter Tryd.func33, Tryd.ntmps33
  go_upto_region 1 with (fail)
  change Code.wp _ _ _ _ (w.alloc (.cells (nums .u8 (List.replicate 32 0)).toArray 44))
  obtain ⟨wa, hwa⟩ : ∃ x, x = w.alloc (.cells (nums .u8 (List.replicate 32 0)).toArray 44) := ⟨_, rfl⟩
  rw [← hwa]
  have hb : Below w.heap.size w wa := by rw [hwa]; exact (Below.refl _ _).alloc (Nat.le_refl _) _
  have hr : Blk w.heap.size 44 .u8 (List.replicate 32 0) wa := by rw [hwa]; exact heap_alloc_new w _
  have HR := Lib.hid hr
  have HKa := Lib.hid (HK.out.below hb)
  have HB := Lib.hid hb
  clear hwa hb hr HK
  go_wp2_with fail
  refine (start_any _).mono ?_
  rintro e w1 ⟨rfl, hb⟩
  have HR1 := Lib.hid (HR.out.below hb)
  have HK1 := Lib.hid (HKa.out.below hb)
  have HB1 := Lib.hid (HB.out.trans (hb.mono HB.out.size))
  have HZ := Lib.hid (show Blk w1.heap.size 64 .u32 (List.replicate 8 0) (w1.alloc (.cells (nums .u32 (List.replicate 8 0)).toArray 64)) from heap_alloc_new w1 _)
  clear hb HR HKa HB
  go_wp2_with (refine wpList_store_nums rfl 64 _ _ rfl rfl w1.heap.size .u32 _ H0.list 64 rfl rfl HZ.out (by exact Tryd.infoS) rfl ?_)
  intro w2 hc hb
  have hb2 : But w1.heap.size w1 w2 := (But.refl w1.heap.size w1).alloc (.cells (nums .u32 (List.replicate 8 0)).toArray 64) |>.trans hb.out
  have hR1 := HR1.out.lt
  have hK1 := HK1.out.lt
  have HS2 := Lib.hid (show Blk w1.heap.size 64 .u32 H0.list w2 from hc.out)
  have HR2 := Lib.hid (HR1.out.but hb2 (by omega))
  have HK2 := Lib.hid (HK1.out.but hb2 (by omega))
  have HB2 := Lib.hid (show Below w.heap.size w w2 from But.toBelow HB1.out hb2 HB1.out.size HB1.out.size)
  clear hc hb hb2 HZ HR1 HK1
  go_upto_region 3 with (fail)
  change Code.wp _ _ _ _ (w2.alloc (.cells (nums .u8 (List.replicate 64 0)).toArray 66))
  obtain ⟨w3, hw3⟩ : ∃ x, x = w2.alloc (.cells (nums .u8 (List.replicate 64 0)).toArray 66) := ⟨_, rfl⟩
  rw [← hw3]
  have hb : Below w2.heap.size w2 w3 := by rw [hw3]; exact (Below.refl _ _).alloc (Nat.le_refl _) _
  have HC3 := Lib.hid (show Blk w2.heap.size 66 .u8 (List.replicate 64 0) w3 by rw [hw3]; exact heap_alloc_new w2 _)
  have hS2 := HS2.out.lt
  have HS3 := Lib.hid (HS2.out.below hb)
  have HR3 := Lib.hid (HR2.out.below hb)
  have HK3 := Lib.hid (HK2.out.below hb)
  have hB1 := HB1.out.size
  have HB3 := Lib.hid (HB2.out.trans (hb.mono HB2.out.size))
  clear hw3 hb HS2 HR2 HK2 HB1
  obtain ⟨bs, hbs⟩ : ∃ x, x = w1.heap.size := ⟨_, rfl⟩
  obtain ⟨bb, hbb⟩ : ∃ x, x = w2.heap.size := ⟨_, rfl⟩
  rw [← hbs] at HS3 hR1 hK1 hB1 hS2 ⊢
  rw [← hbb] at HC3 hS2 ⊢
  clear hbs hbb HB2 hB1
  go_wp2_with fail
  go_loopw [5] (fun v wq => ∃ m : Nat, 64 * m ≤ s.length ∧ v = .string ⟨(s.drop (64 * m)).toArray⟩ ∧ Blk bs 64 .u32 (blocks (padN s) m).list wq ∧ (∃ l, l.length = 64 ∧ Blk bb 66 .u8 l wq) ∧ Blk w.heap.size 44 .u8 (List.replicate 32 0) wq ∧ KAt wq ∧ Below w.heap.size w wq) (fun v _ => strN v)
  case atStart => exact ⟨0, by omega, rfl, HS3.out, ⟨_, List.length_replicate, HC3.out⟩, HR3.out, HK3.out, HB3.out⟩
  case round =>
    clear HS3 HC3 HR3 HK3 HB3
    obtain ⟨m, hm64, rfl, hs, ⟨l, hl, hc⟩, hr, hk, hb⟩ := hrel
    have HS := Lib.hid hs
    have HC := Lib.hid hc
    have HR := Lib.hid hr
    have HK := Lib.hid hk
    have HB := Lib.hid hb
    have HLL := Lib.hid hl
    clear hs hc hr hk hb hl
    obtain ⟨r, hr⟩ : ∃ r, r = s.drop (64 * m) := ⟨_, rfl⟩
    rw [← hr]
    have hrl : r.length = s.length - 64 * m := by rw [hr]; exact List.length_drop
    have HRE := Lib.hid hr
    clear hr
    by_cases hlt : 64 * m + 64 ≤ s.length
    · have hl64 : 64 ≤ r.length := by omega
      have hx := extract_tail r 64
      have HX := Lib.hid (show r.drop 64 = s.drop (64 * (m + 1)) by rw [HRE.out, List.drop_drop]; rfl)
      have HXL := Lib.hid (show (r.drop 64).length = r.length - 64 from List.length_drop)
      clear hrl
      go_wp2_with (refine wpList_copy_bytes rfl _ _ 51 9 rfl 5 Tryd.underlying51 (by kernel_rfl) bb 64 64 r l 66 HLL.out.symm rfl rfl HC.out ?_)
      intro w5 hc hb
      have HC5 := Lib.hid (show Blk bb 66 .u8 (byteNs (r.take 64)) w5 by
        have h := hc.out
        rw [HLL.out, List.drop_of_length_le (by rw [HLL.out]; exact hl64), List.append_nil] at h
        exact h)
      have HS5 := Lib.hid (HS.out.but hb.out (by omega))
      have HR5 := Lib.hid (HR.out.but hb.out (by omega))
      have HK5 := Lib.hid (HK.out.but hb.out (by omega))
      have hbsz := HB.out.size
      have HB5 := Lib.hid (show Below w.heap.size w w5 from But.toBelow HB.out hb.out (by omega) hbsz)
      clear hc hb HS HC HR HK HB
      go_wp2_with fail
      refine (mix_any bs bb 64 66 _ _ w5 (blocks_ok _ _) (by rw [byteNs_len, List.length_take]; omega) (byteNs_lt _) HS5.out HC5.out HK5.out).mono ?_
      rintro e w6 ⟨rfl, hs6, hb6⟩
      have HS6 := Lib.hid (show Blk bs 64 .u32 (blocks (padN s) (m + 1)).list w6 by rw [← blocks_next s m hlt, ← HRE.out]; exact hs6)
      have HC6 := Lib.hid (HC5.out.but hb6 (by omega))
      have HR6 := Lib.hid (HR5.out.but hb6 (by omega))
      have HK6 := Lib.hid (HK5.out.but hb6 (by omega))
      have HB6 := Lib.hid (show Below w.heap.size w w6 from But.toBelow HB5.out hb6 (by omega) HB5.out.size)
      have HC6L := Lib.hid (show (byteNs (r.take 64)).length = 64 by rw [byteNs_len, List.length_take]; omega)
      clear hs6 hb6 HS5 HC5 HR5 HK5 HB5
      go_wp2_with fail
      exact ⟨⟨m + 1, by omega, by rw [HX.out], HS6.out, ⟨_, HC6L.out, HC6.out⟩, HR6.out, HK6.out, HB6.out⟩, by have := HXL.out; simp [strN, ByteArray.size] at this ⊢; omega⟩
    · have hr63 : r.length ≤ 63 := by omega
      have HF := Lib.hid (show outN (blocks (padN s) ((padN s).length / 64)).list = shaN s from rfl)
      have hfin : Calls Tryd.prog 42 #[.pointer (some ⟨bs, 0, none⟩), .string ⟨r.toArray⟩, .int .u64 s.length] wr fun e w' =>
          e = .returned (.tuple #[]) ∧ Blk bs 64 .u32 (blocks (padN s) ((padN s).length / 64)).list w' ∧ But bs wr w' := by
        by_cases h55 : r.length ≤ 55
        · have h := fin_short bs 64 _ r s.length (s.length * 8) wr (blocks_ok (padN s) m) h55 (by omega) (by omega) HS.out HK.out
          rw [HRE.out, blocks_short s m hm64 (by omega) (by omega), ← HRE.out] at h
          exact h
        · have h := fin_long bs 64 _ r s.length (s.length * 8) wr (blocks_ok (padN s) m) (by omega) hr63 (by omega) (by omega) HS.out HK.out (by omega)
          rw [HRE.out, blocks_long s m (by omega) (by omega) (by omega), ← HRE.out] at h
          exact h
      have HFIN := Lib.hid hfin
      clear hfin hrl
      go_wp2_with fail
      refine HFIN.out.mono ?_
      rintro e w5 ⟨rfl, hs5, hb5⟩
      have HS5 := Lib.hid hs5
      have HR5 := Lib.hid (HR.out.but hb5 (by omega))
      have HB5 := Lib.hid (show Below w.heap.size w w5 from But.toBelow HB.out hb5 (by omega) HB.out.size)
      clear hs5 hb5 HS HR HB HC HK HFIN
      go_wp2_with fail
      refine (digest_any bs 64 _ w5 (blocks_ok _ _) HS5.out).mono ?_
      rintro e w6 ⟨rfl, hb6⟩
      rw [HF.out]
      have HR6 := Lib.hid (HR5.out.below hb6)
      have HB6 := Lib.hid (HB5.out.trans (hb6.mono HB5.out.size))
      have HI := Lib.hid (show (Tryd.prog.info? 44).map (·.size) = some (shaN s).length by rw [shaN_len]; exact Tryd.infoId)
      have HL := Lib.hid (show (List.replicate 32 0).length = (shaN s).length by rw [shaN_len, List.length_replicate])
      clear hb6 HR5 HB5 HS5
      go_wp2_with (refine wpList_store_nums rfl 44 _ _ rfl rfl w.heap.size .u8 _ (shaN s) 44 rfl rfl HR6.out HI.out HL.out ?_)
      intro w7 hc hb
      have HC7 := Lib.hid (show Blk w.heap.size 44 .u8 (shaN s) w7 from hc.out)
      have HB7 := Lib.hid (show Below w.heap.size w w7 from But.toBelow HB6.out hb.out (Nat.le_refl _) HB6.out.size)
      clear hc hb
      go_wp2_with fail
      exact bodyPost_ret (results_nums rfl _ _ w.heap.size .u8 _ 44 _ rfl HC7.out Tryd.underlying44 rfl HI.out) rfl ⟨rfl, HB7.out⟩
end Go.Proofs.YtlgmlnhjanjplaaDoor
