/-
  The developers' start and digest.
-/
import Derived.Test.YtlgmlnhjanjplaaDoorCopy
namespace Go.Proofs.YtlgmlnhjanjplaaDoor
open Go.RowKit

set_option maxRecDepth 100000 in
theorem start_any (w : World) :
    Calls Tryd.prog 40 #[] w fun e w' => e = .returned (.agg (nums .u32 H0.list).toArray) ∧ Below w.heap.size w w' := by
  have HZ := Lib.hid (show Blk w.heap.size 64 .u32 (List.replicate 8 0) (w.alloc (.cells (nums .u32 (List.replicate 8 0)).toArray 64)) from heap_alloc_new w _)
  have HB := Lib.hid ((Below.refl w.heap.size w).alloc (Nat.le_refl _) (.cells (nums .u32 (List.replicate 8 0)).toArray 64))
  go_enter Tryd.func40, Tryd.ntmps40
  go_wp2_with (refine wpList_store_nums rfl 64 _ _ rfl rfl w.heap.size .u32 _ H0.list 64 rfl rfl HZ.out (by exact Tryd.infoS) rfl ?_)
  intro w2 hc hb
  have HC := Lib.hid (show Blk w.heap.size 64 .u32 H0.list w2 from hc.out)
  have HB2 := Lib.hid (show Below w.heap.size w w2 from But.toBelow HB.out hb.out (Nat.le_refl _) HB.out.size)
  clear hc hb
  go_wp2_with fail
  exact bodyPost_ret (results_nums rfl _ _ w.heap.size .u32 _ 64 _ rfl HC.out Tryd.underlying64 rfl Tryd.infoS) rfl ⟨rfl, HB2.out⟩

set_option maxHeartbeats 4000000 in
set_option maxRecDepth 100000 in
theorem digest_any (bs : Nat) (ts : TypeId) (v : S8) (w : World) (hv : v.Ok) (hs : Blk bs ts .u32 v.list w) :
    Calls Tryd.prog 43 #[.pointer (some ⟨bs, 0, none⟩)] w fun e w' => e = .returned (.agg (nums .u8 (outN v.list)).toArray) ∧ Below w.heap.size w w' := by
  have HV := Lib.hid hv
  have HS := Lib.hid hs
  clear hv hs
  go_enter Tryd.func43, Tryd.ntmps43
  go_wp2_with fail
  go_loopw [8] (fun i wq => ∃ k : Nat, k ≤ 8 ∧ i = .int .i64 k ∧ Blk (w.heap.size + 1) 44 .u8 (outP v.list (4 * k)) wq ∧ Blk w.heap.size 44 .u8 (List.replicate 32 0) wq ∧ Below w.heap.size w wq) (fun i _ => 8 - (intOf i).toNat)
  case atStart =>
    refine ⟨0, by omega, rfl, ?_, ?_, ((Below.refl _ w).alloc (Nat.le_refl _) _).alloc (by simp) _⟩
    · have h := heap_alloc_new (w.alloc (.cells (nums .u8 (List.replicate 32 0)).toArray 44)) (.cells (nums .u8 (List.replicate 32 0)).toArray 44)
      rw [World.size_alloc] at h
      exact h
    · exact Blk.alloc (show Blk w.heap.size 44 .u8 (List.replicate 32 0) (w.alloc (.cells (nums .u8 (List.replicate 32 0)).toArray 44)) from heap_alloc_new w _) _
  case round =>
    obtain ⟨k, hk, rfl, hw, hr, hb⟩ := hrel
    have HW := Lib.hid hw
    have HR := Lib.hid hr
    have HB := Lib.hid hb
    clear hw hr hb
    by_cases hlk : k < 8
    · have c := (HS.out.below HB.out).cell k hlk
      have hx := getD_lt HV.out.lt (by decide) k
      have HX := Lib.hid (show v.list.getD k 0 = v.list.getD k 0 from rfl)
      obtain ⟨x, hxe⟩ : ∃ x, x = v.list.getD k 0 := ⟨_, rfl⟩
      rw [← hxe] at c hx
      have HXE := Lib.hid hxe
      have bk : (k : Int) < 8 := by omega
      clear hxe HX
      go_wp2_with fail
      go_quiet (fail)
      clear c
      go_wp2_with fail
      go_loopw [14] (fun i wq => ∃ j : Nat, j ≤ 4 ∧ i = .int .i64 j ∧ Blk (w.heap.size + 1) 44 .u8 (outP v.list (4 * k + j)) wq ∧ Blk w.heap.size 44 .u8 (List.replicate 32 0) wq ∧ Below w.heap.size w wq) (fun i _ => 4 - (intOf i).toNat)
      case atStart => exact ⟨0, by omega, rfl, HW.out, HR.out, drawn_below HB.out nq⟩
      case round =>
        clear HW HR HB
        obtain ⟨j, hj, rfl, hw, hr, hb⟩ := hrel
        have HW := Lib.hid hw
        have HR := Lib.hid hr
        have HB := Lib.hid hb
        clear hw hr hb
        by_cases hlj : j < 4
        · obtain ⟨i, hi⟩ : ∃ i, i = 4 * k + j := ⟨_, rfl⟩
          have hil : i < 32 := by omega
          have hlen := outP_len v.list i (by omega)
          rw [← hi] at HW
          have c1 := HW.out.cell i (by omega)
          have hf := HW.out.frozen i
          have HS2 := Lib.hid (HW.out.set i (outB v.list i))
          rw [outP_set _ _ hil] at HS2
          have HO := Lib.hid (show outB v.list i = x / 2 ^ (24 - 8 * j) % 256 by rw [HXE.out]; unfold outB; rw [show i / 4 = k by omega, show i % 4 = j by omega])
          have HI := Lib.hid (show i + 1 = 4 * k + (j + 1) by omega)
          generalize (outP v.list i).getD i 0 = y at c1
          have d1 : 4 * (k : Int) + (j : Int) = (i : Int) := by omega
          have d2 : IntKind.i64.wrap (i : Int) = (i : Int) := by rw [IntKind.wrap_i64]; omega
          have b1 : (i : Int) < 32 := by omega
          clear hlen hi
          go_wp2_with fail
          have hv : ((outB v.list i : Nat) : Int) = (x : Int) / 2 ^ (24 - 8 * j) % 256 := by
            rw [HO.out]
            simp
          rw [hv] at HS2
          exact ⟨⟨j + 1, by omega, by go_num, by rw [← HI.out]; exact HS2.out, HR.out.but ((But.refl _ _).setCell _ _) (by omega), HB.out.setCell (by simp) _⟩, by simp [intOf]; omega⟩
        · obtain rfl : j = 4 := by omega
          rw [show ((4 : Nat) : Int) = 4 from rfl]
          have HI := Lib.hid (show 4 * k + 4 = 4 * (k + 1) by omega)
          go_wp2_with fail
          exact ⟨⟨k + 1, by omega, by go_num, by rw [← HI.out]; exact HW.out, HR.out, HB.out⟩, by simp [intOf]; omega⟩
    · obtain rfl : k = 8 := by omega
      rw [show ((8 : Nat) : Int) = 8 from rfl]
      rw [show 4 * 8 = 32 from rfl, outP_full] at HW
      have HI := Lib.hid (show (Tryd.prog.info? 44).map (·.size) = some (outN v.list).length by rw [show (outN v.list).length = 32 by simp [outN]]; exact Tryd.infoId)
      have HL := Lib.hid (show (List.replicate 32 0).length = (outN v.list).length by simp [outN])
      go_wp2_with (first | (refine wpList_load_nums rfl 44 _ rfl (w.heap.size + 1) .u8 _ 44 _ rfl HW.out Tryd.underlying44 rfl HI.out ?_) | (refine wpList_store_nums rfl 44 _ _ rfl rfl w.heap.size .u8 _ (outN v.list) 44 rfl rfl HR.out HI.out HL.out ?_))
      intro w2 hc hb
      have HC := Lib.hid (show Blk w.heap.size 44 .u8 (outN v.list) w2 from hc.out)
      have HB2 := Lib.hid (show Below w.heap.size w w2 from But.toBelow HB.out hb.out (Nat.le_refl _) HB.out.size)
      clear hc hb
      go_wp2_with fail
      exact bodyPost_ret (results_nums rfl _ _ w.heap.size .u8 _ 44 _ rfl HC.out Tryd.underlying44 rfl HI.out) rfl ⟨rfl, HB2.out⟩
end Go.Proofs.YtlgmlnhjanjplaaDoor
