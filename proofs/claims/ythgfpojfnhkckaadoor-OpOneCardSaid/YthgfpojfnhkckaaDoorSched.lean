/-
  The developers' schedule: a block's words.
-/
import Derived.Test.YthgfpojfnhkckaaDoorBlocks
namespace Go.Proofs.YthgfpojfnhkckaaDoor
open Go.RowKit

set_option maxHeartbeats 4000000 in
set_option maxRecDepth 100000 in
theorem schedule_any (bb : Nat) (t : TypeId) (bl : List Nat) (w : World) (hlen : bl.length = 64) (hbl : ∀ x ∈ bl, x < 256) (hc : Blk bb t .u8 bl w) :
    Calls Tryd.prog 47 #[.pointer (some ⟨bb, 0, none⟩)] w fun e w' => e = .returned (.agg (nums .u32 (wl (bAt bl) 64)).toArray) ∧ Below w.heap.size w w' := by
  have HC := Lib.hid hc
  have HBY := Lib.hid (bAt_lt hbl)
  have HL := Lib.hid hlen
  clear hlen hbl hc
  go_enter Tryd.func47, Tryd.ntmps47
  go_wp2_with fail
  go_loopw [10] (fun i wq => ∃ k : Nat, k ≤ 16 ∧ i = .int .i64 k ∧ Blk (w.heap.size + 1) 83 .u32 (arrW (bAt bl) k) wq ∧ Blk w.heap.size 83 .u32 (List.replicate 64 0) wq ∧ Below w.heap.size w wq) (fun i _ => 16 - (intOf i).toNat)
  case atStart => 
    refine ⟨0, by omega, rfl, ?_, ?_, ((Below.refl _ w).alloc (Nat.le_refl _) _).alloc (by simp) _⟩
    · have h := heap_alloc_new (w.alloc (.cells (nums .u32 (List.replicate 64 0)).toArray 83)) (.cells (nums .u32 (List.replicate 64 0)).toArray 83)
      rw [World.size_alloc] at h
      exact h
    · exact Blk.alloc (show Blk w.heap.size 83 .u32 (List.replicate 64 0) (w.alloc (.cells (nums .u32 (List.replicate 64 0)).toArray 83)) from heap_alloc_new w _) _
  case round =>
    obtain ⟨k, hk, rfl, hw, hr, hb⟩ := hrel
    have HW := Lib.hid hw
    have HR := Lib.hid hr
    have HB := Lib.hid hb
    clear hw hr hb
    by_cases hlk : k < 16
    · have hC := HC.out.below HB.out
      have c0 := hC.cell (4 * k) (by rw [HL.out]; omega)
      have c1 := hC.cell (4 * k + 1) (by rw [HL.out]; omega)
      have c2 := hC.cell (4 * k + 2) (by rw [HL.out]; omega)
      have c3 := hC.cell (4 * k + 3) (by rw [HL.out]; omega)
      have x0 := HBY.out (4 * k)
      have x1 := HBY.out (4 * k + 1)
      have x2 := HBY.out (4 * k + 2)
      have x3 := HBY.out (4 * k + 3)
      have HX := Lib.hid (show wordN (bAt bl) k = bAt bl (4 * k) * 16777216 + bAt bl (4 * k + 1) * 65536 + bAt bl (4 * k + 2) * 256 + bAt bl (4 * k + 3) from rfl)
      change wr.cell? _ = some (.int .u8 ((bAt bl (4 * k) : Nat) : Int)) at c0
      change wr.cell? _ = some (.int .u8 ((bAt bl (4 * k + 1) : Nat) : Int)) at c1
      change wr.cell? _ = some (.int .u8 ((bAt bl (4 * k + 2) : Nat) : Int)) at c2
      change wr.cell? _ = some (.int .u8 ((bAt bl (4 * k + 3) : Nat) : Int)) at c3
      generalize bAt bl (4 * k) = b0 at c0 x0 HX
      generalize bAt bl (4 * k + 1) = b1 at c1 x1 HX
      generalize bAt bl (4 * k + 2) = b2 at c2 x2 HX
      generalize bAt bl (4 * k + 3) = b3 at c3 x3 HX
      have hal := arrW_len (bAt bl) (show k ≤ 64 by omega)
      have c4 := HW.out.cell k (by omega)
      have hf := HW.out.frozen k
      have HS := Lib.hid (HW.out.set k (wordN (bAt bl) k))
      rw [arrW_word hlk] at HS
      generalize (arrW (bAt bl) k).getD k 0 = y at c4
      clear hC hal
      have HV := Lib.hid (word_or b0 b1 b2 b3 x0 x1 x2 x3)
      rw [← HX.out] at HV
      obtain ⟨j0, h0⟩ : ∃ j, j = 4 * k := ⟨_, rfl⟩
      obtain ⟨j1, h1⟩ : ∃ j, j = 4 * k + 1 := ⟨_, rfl⟩
      obtain ⟨j2, h2⟩ : ∃ j, j = 4 * k + 2 := ⟨_, rfl⟩
      obtain ⟨j3, h3⟩ : ∃ j, j = 4 * k + 3 := ⟨_, rfl⟩
      rw [← h0] at c0
      rw [← h1] at c1
      rw [← h2] at c2
      rw [← h3] at c3
      have s0 : IntKind.i64.wrap (j0 : Int) = (j0 : Int) := by rw [IntKind.wrap_i64]; omega
      have s1 : IntKind.i64.wrap (j1 : Int) = (j1 : Int) := by rw [IntKind.wrap_i64]; omega
      have s2 : IntKind.i64.wrap (j2 : Int) = (j2 : Int) := by rw [IntKind.wrap_i64]; omega
      have s3 : IntKind.i64.wrap (j3 : Int) = (j3 : Int) := by rw [IntKind.wrap_i64]; omega
      have n0 : 4 * (k : Int) = (j0 : Int) := by omega
      have n1 : (j0 : Int) + 1 = (j1 : Int) := by omega
      have n2 : (j0 : Int) + 2 = (j2 : Int) := by omega
      have n3 : (j0 : Int) + 3 = (j3 : Int) := by omega
      have l0 : (j0 : Int) < 64 := by omega
      have l1 : (j1 : Int) < 64 := by omega
      have l2 : (j2 : Int) < 64 := by omega
      have l3 : (j3 : Int) < 64 := by omega
      clear h0 h1 h2 h3
      have l4 : (k : Int) < 64 := by omega
      go_wp2_with fail
      obtain ⟨w9, hw9⟩ : ∃ x, x = wr.drew := ⟨_, rfl⟩
      refine wp_region_still_tail 39 (by kernel_rfl) (by kernel_rfl) ?_
      simp only [List.take_succ_cons, List.take_zero, List.drop_succ_cons, List.drop_zero]
      change wpStill _ _ wr.drew (fun a' => wpList _ _ _ _ a' wr.drew) _ _
      rw [← hw9]
      replace c0 : w9.cell? ⟨bb, j0, none⟩ = some (.int .u8 (b0 : Int)) := by rw [hw9]; exact c0
      replace c1 : w9.cell? ⟨bb, j1, none⟩ = some (.int .u8 (b1 : Int)) := by rw [hw9]; exact c1
      replace c2 : w9.cell? ⟨bb, j2, none⟩ = some (.int .u8 (b2 : Int)) := by rw [hw9]; exact c2
      replace c3 : w9.cell? ⟨bb, j3, none⟩ = some (.int .u8 (b3 : Int)) := by rw [hw9]; exact c3
      replace c4 : w9.cell? ⟨w.heap.size + 1, k, none⟩ = some (.int .u32 (y : Int)) := by rw [hw9]; exact c4
      replace hf : w9.frozen? ⟨w.heap.size + 1, k, none⟩ = false := by rw [hw9]; exact hf
      have HS9 := Lib.hid (show Blk (w.heap.size + 1) 83 .u32 (arrW (bAt bl) (k + 1)) (w9.setCell ⟨w.heap.size + 1, k, none⟩ (.int .u32 ((wordN (bAt bl) k : Nat) : Int))) by rw [hw9]; exact HS.out)
      have HR9 := Lib.hid (show Blk w.heap.size 83 .u32 (List.replicate 64 0) w9 by rw [hw9]; exact HR.out)
      have HB9 := Lib.hid (show Below w.heap.size w w9 by rw [hw9]; exact HB.out.drew)
      clear hw9 HS HR HB HW
      repeat still_step
      refine wpStill_nil ?_
      go_wp2_with fail
      rw [HV.out]
      exact ⟨⟨k + 1, by omega, by go_num, HS9.out, HR9.out.but ((But.refl _ _).setCell _ _) (by omega), HB9.out.setCell (by simp) _⟩, by simp [intOf]; omega⟩
    · obtain rfl : k = 16 := by omega
      rw [show ((16 : Nat) : Int) = 16 from rfl]
      go_wp2_with fail
      go_loopw [5] (fun i wq => ∃ k : Nat, 16 ≤ k ∧ k ≤ 64 ∧ i = .int .i64 k ∧ Blk (w.heap.size + 1) 83 .u32 (arrW (bAt bl) k) wq ∧ Blk w.heap.size 83 .u32 (List.replicate 64 0) wq ∧ Below w.heap.size w wq) (fun i _ => 64 - (intOf i).toNat)
      case atStart => exact ⟨16, by omega, by omega, rfl, HW.out, HR.out, HB.out⟩
      case round =>
        clear HW HR HB
        obtain ⟨k, hk16, hk, rfl, hw, hr, hb⟩ := hrel
        have HW := Lib.hid hw
        have HR := Lib.hid hr
        have HB := Lib.hid hb
        clear hw hr hb
        by_cases hlk : k < 64
        · have hwl := wl_lt HBY.out k
          have hal := arrW_len (bAt bl) hk
          obtain ⟨j16, hj16⟩ : ∃ j, j = k - 16 := ⟨_, rfl⟩
          obtain ⟨j7, hj7⟩ : ∃ j, j = k - 7 := ⟨_, rfl⟩
          obtain ⟨j15, hj15⟩ : ∃ j, j = k - 15 := ⟨_, rfl⟩
          obtain ⟨j2, hj2⟩ : ∃ j, j = k - 2 := ⟨_, rfl⟩
          have a16 := HW.out.cell j16 (by omega)
          have a7 := HW.out.cell j7 (by omega)
          have a15 := HW.out.cell j15 (by omega)
          have a2 := HW.out.cell j2 (by omega)
          rw [arrW_get _ (by omega) hk] at a16 a7 a15 a2
          have x15 := getD_lt hwl (by decide) j15
          have x2 := getD_lt hwl (by decide) j2
          have x16 := getD_lt hwl (by decide) j16
          have x7 := getD_lt hwl (by decide) j7
          have hnx : nextW (wl (bAt bl) k) k = ((wl (bAt bl) k).getD (k - 16) 0 + (wl (bAt bl) k).getD (k - 7) 0 + s0 ((wl (bAt bl) k).getD (k - 15) 0) + s1 ((wl (bAt bl) k).getD (k - 2) 0)) % 4294967296 := rfl
          rw [← hj16, ← hj7, ← hj15, ← hj2] at hnx
          generalize (wl (bAt bl) k).getD j16 0 = y16 at a16 x16 hnx
          generalize (wl (bAt bl) k).getD j7 0 = y7 at a7 x7 hnx
          generalize (wl (bAt bl) k).getD j15 0 = y15 at a15 x15 hnx
          generalize (wl (bAt bl) k).getD j2 0 = y2 at a2 x2 hnx
          have HNX := Lib.hid hnx
          have ak := HW.out.cell k (by omega)
          have hf := HW.out.frozen k
          have HS := Lib.hid (HW.out.set k (nextW (wl (bAt bl) k) k))
          rw [arrW_next (by omega) hlk] at HS
          generalize (arrW (bAt bl) k).getD k 0 = y at ak
          have e16 : IntKind.i64.wrap ((k : Int) - 16) = (j16 : Int) := by rw [IntKind.wrap_i64]; omega
          have e7 : IntKind.i64.wrap ((k : Int) - 7) = (j7 : Int) := by rw [IntKind.wrap_i64]; omega
          have e15 : IntKind.i64.wrap ((k : Int) - 15) = (j15 : Int) := by rw [IntKind.wrap_i64]; omega
          have e2 : IntKind.i64.wrap ((k : Int) - 2) = (j2 : Int) := by rw [IntKind.wrap_i64]; omega
          have d16 : (k : Int) - 16 = (j16 : Int) := by omega
          have d7 : (k : Int) - 7 = (j7 : Int) := by omega
          have d15 : (k : Int) - 15 = (j15 : Int) := by omega
          have d2 : (k : Int) - 2 = (j2 : Int) := by omega
          have q16 : IntKind.i64.wrap (j16 : Int) = (j16 : Int) := by rw [IntKind.wrap_i64]; omega
          have q7 : IntKind.i64.wrap (j7 : Int) = (j7 : Int) := by rw [IntKind.wrap_i64]; omega
          have q15 : IntKind.i64.wrap (j15 : Int) = (j15 : Int) := by rw [IntKind.wrap_i64]; omega
          have q2 : IntKind.i64.wrap (j2 : Int) = (j2 : Int) := by rw [IntKind.wrap_i64]; omega
          have b16 : (j16 : Int) < 64 := by omega
          have b7 : (j7 : Int) < 64 := by omega
          have b15 : (j15 : Int) < 64 := by omega
          have b2 : (j2 : Int) < 64 := by omega
          have bk : (k : Int) < 64 := by omega
          clear hwl hal hnx hj16 hj7 hj15 hj2
          go_wp2_with fail
          go_quiet (fail)
          go_wp2_with fail
          refine (right_lit y15 _ 7 _ x15 rfl (by decide) (by decide)).mono ?_
          rintro e w5 ⟨rfl, rfl⟩
          go_wp2_with fail
          refine (right_lit y15 _ 18 _ x15 rfl (by decide) (by decide)).mono ?_
          rintro e w5 ⟨rfl, rfl⟩
          go_wp2_with fail
          refine (right_lit y2 _ 17 _ x2 rfl (by decide) (by decide)).mono ?_
          rintro e w5 ⟨rfl, rfl⟩
          go_wp2_with fail
          refine (right_lit y2 _ 19 _ x2 rfl (by decide) (by decide)).mono ?_
          rintro e w5 ⟨rfl, rfl⟩
          go_wp2_with fail
          obtain ⟨w9, hw9⟩ : ∃ x, x = (wr.drewN nq).drew := ⟨_, rfl⟩
          refine wp_region_still_tail 15 (by kernel_rfl) (by kernel_rfl) ?_
          simp only [List.take_succ_cons, List.take_zero, List.drop_succ_cons, List.drop_zero]
          change wpStill _ _ (wr.drewN nq).drew (fun a' => wpList _ _ _ _ a' (wr.drewN nq).drew) _ _
          rw [← hw9]
          replace a16 : w9.cell? ⟨w.heap.size + 1, j16, none⟩ = some (.int .u32 (y16 : Int)) := by rw [hw9]; exact a16
          replace a7 : w9.cell? ⟨w.heap.size + 1, j7, none⟩ = some (.int .u32 (y7 : Int)) := by rw [hw9]; exact a7
          replace ak : w9.cell? ⟨w.heap.size + 1, k, none⟩ = some (.int .u32 (y : Int)) := by rw [hw9]; exact ak
          replace hf : w9.frozen? ⟨w.heap.size + 1, k, none⟩ = false := by rw [hw9]; exact hf
          have HS9 := Lib.hid (show Blk (w.heap.size + 1) 83 .u32 (arrW (bAt bl) (k + 1)) (w9.setCell ⟨w.heap.size + 1, k, none⟩ (.int .u32 ((nextW (wl (bAt bl) k) k : Nat) : Int))) by rw [hw9]; exact HS.out)
          have HR9 := Lib.hid (show Blk w.heap.size 83 .u32 (List.replicate 64 0) w9 by rw [hw9]; exact HR.out)
          have HB9 := Lib.hid (show Below w.heap.size w w9 by rw [hw9]; exact drawn_below HB.out (nq + 1))
          clear hw9 HS HR HB HW a15 a2
          repeat still_step
          refine wpStill_nil ?_
          go_wp2_with fail
          have hv := w_int y16 y7 y15 y2 x15 x2 (by omega) (by omega)
          rw [← HNX.out, show ((y15 / 8 : Nat) : Int) = (y15 : Int) / 8 by omega, show ((y2 / 1024 : Nat) : Int) = (y2 : Int) / 1024 by omega] at hv
          rw [hv]
          exact ⟨⟨k + 1, by omega, by omega, by go_num, HS9.out, HR9.out.but ((But.refl _ _).setCell _ _) (by omega), HB9.out.setCell (by simp) _⟩, by simp [intOf]; omega⟩
        · obtain rfl : k = 64 := by omega
          rw [show ((64 : Nat) : Int) = 64 from rfl]
          rw [arrW_full] at HW
          have HI := Lib.hid (show (Tryd.prog.info? 83).map (·.size) = some (nums .u32 (wl (bAt bl) 64)).toArray.size by rw [nums_size, wl_len]; exact Tryd.infoW)
          have HL2 := Lib.hid (show (nums .u32 (List.replicate 64 0)).toArray.size = (nums .u32 (wl (bAt bl) 64)).toArray.size by rw [nums_size, nums_size, wl_len, List.length_replicate])
          go_wp2_with (first | (refine wpList_load_row rfl 83 _ rfl (w.heap.size + 1) rfl 83 _ _ _ HW.out Tryd.underlying83 rfl HI.out ?_) | (refine wpList_store_rowTo rfl 83 _ _ rfl rfl w.heap.size (nums .u32 (wl (bAt bl) 64)).toArray rfl rfl 83 _ HR.out HI.out HL2.out (nums_all _ _) ?_))
          exact bodyPost_ret (results_cell_row rfl _ _ w.heap.size 83 _ (0, 0) _ rfl (setRow_heap _ _ _ _ _ _ HR.out) Tryd.underlying83 rfl HI.out) rfl ⟨rfl, below_setRow HB.out (Nat.le_refl _) _⟩
end Go.Proofs.YthgfpojfnhkckaaDoor
