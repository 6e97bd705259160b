/-
  Joined: The developers' schedule: a block's words.; The rounds over a block.; The developers' digest.; The document's Of: the loops that pad.
-/
import Derived.Deep.Cut
import Derived.Test.YtpfhlhcnmeodbaaGreatDoorJ02
namespace Go.Proofs.YtpfhlhcnmeodbaaGreatDoor
open Go.RowKit
set_option maxHeartbeats 4000000 in
set_option maxRecDepth 100000 in
theorem schedule_any (bb : Nat) (t : TypeId) (bl : List Nat) (w : World) (hlen : bl.length = 64) (hbl : ∀ x ∈ bl, x < 256) (hc : Blk bb t .u8 bl w) :
    Calls Tryz.prog 115 #[.pointer (some ⟨bb, 0, none⟩)] w fun e w' => e = .returned (.agg (nums .u32 (wl (bAt bl) 64)).toArray) ∧ Below w.heap.size w w' := by
  have HC := Lib.hid hc
  have HBY := Lib.hid (bAt_lt hbl)
  have HL := Lib.hid hlen
  clear hlen hbl hc
  go_enter Tryz.func115, Tryz.ntmps115
  go_wp2_with fail
  go_loopw [10] (fun i wq => ∃ k : Nat, k ≤ 16 ∧ i = .int .i64 k ∧ Blk (w.heap.size + 1) 161 .u32 (arrW (bAt bl) k) wq ∧ Blk w.heap.size 161 .u32 (List.replicate 64 0) wq ∧ Below w.heap.size w wq) (fun i _ => 16 - (intOf i).toNat)
  case atStart => 
    refine ⟨0, by omega, rfl, ?_, ?_, ((Below.refl _ w).alloc (Nat.le_refl _) _).alloc (by simp) _⟩
    · have h := heap_alloc_new (w.alloc (.cells (nums .u32 (List.replicate 64 0)).toArray 161)) (.cells (nums .u32 (List.replicate 64 0)).toArray 161)
      rw [World.size_alloc] at h
      exact h
    · exact Blk.alloc (show Blk w.heap.size 161 .u32 (List.replicate 64 0) (w.alloc (.cells (nums .u32 (List.replicate 64 0)).toArray 161)) from heap_alloc_new w _) _
  case round =>
    obtain ⟨k, hk, rfl, hw, hr, hb⟩ := hrel
    have HW := Lib.hid hw
    have HR := Lib.hid hr
    have HB := Lib.hid hb
    clear hw hr hb
    by_cases hlk : k < 16
    · have hC := HC.out.below HB.out
      have c0 := hC.cell (4 * k) (by rw [HL.out]; omega)
      have c1 := hC.cell (4 * k + 1) (by rw [HL.out]; omega)
      have c2 := hC.cell (4 * k + 2) (by rw [HL.out]; omega)
      have c3 := hC.cell (4 * k + 3) (by rw [HL.out]; omega)
      have x0 := HBY.out (4 * k)
      have x1 := HBY.out (4 * k + 1)
      have x2 := HBY.out (4 * k + 2)
      have x3 := HBY.out (4 * k + 3)
      have HX := Lib.hid (show wordN (bAt bl) k = bAt bl (4 * k) * 16777216 + bAt bl (4 * k + 1) * 65536 + bAt bl (4 * k + 2) * 256 + bAt bl (4 * k + 3) from rfl)
      change wr.cell? _ = some (.int .u8 ((bAt bl (4 * k) : Nat) : Int)) at c0
      change wr.cell? _ = some (.int .u8 ((bAt bl (4 * k + 1) : Nat) : Int)) at c1
      change wr.cell? _ = some (.int .u8 ((bAt bl (4 * k + 2) : Nat) : Int)) at c2
      change wr.cell? _ = some (.int .u8 ((bAt bl (4 * k + 3) : Nat) : Int)) at c3
      generalize bAt bl (4 * k) = b0 at c0 x0 HX
      generalize bAt bl (4 * k + 1) = b1 at c1 x1 HX
      generalize bAt bl (4 * k + 2) = b2 at c2 x2 HX
      generalize bAt bl (4 * k + 3) = b3 at c3 x3 HX
      have hal := arrW_len (bAt bl) (show k ≤ 64 by omega)
      have c4 := HW.out.cell k (by omega)
      have hf := HW.out.frozen k
      have HS := Lib.hid (HW.out.set k (wordN (bAt bl) k))
      rw [arrW_word hlk] at HS
      generalize (arrW (bAt bl) k).getD k 0 = y at c4
      clear hC hal
      have HV := Lib.hid (word_or b0 b1 b2 b3 x0 x1 x2 x3)
      rw [← HX.out] at HV
      obtain ⟨j0, h0⟩ : ∃ j, j = 4 * k := ⟨_, rfl⟩
      obtain ⟨j1, h1⟩ : ∃ j, j = 4 * k + 1 := ⟨_, rfl⟩
      obtain ⟨j2, h2⟩ : ∃ j, j = 4 * k + 2 := ⟨_, rfl⟩
      obtain ⟨j3, h3⟩ : ∃ j, j = 4 * k + 3 := ⟨_, rfl⟩
      rw [← h0] at c0
      rw [← h1] at c1
      rw [← h2] at c2
      rw [← h3] at c3
      have s0 : IntKind.i64.wrap (j0 : Int) = (j0 : Int) := by rw [IntKind.wrap_i64]; omega
      have s1 : IntKind.i64.wrap (j1 : Int) = (j1 : Int) := by rw [IntKind.wrap_i64]; omega
      have s2 : IntKind.i64.wrap (j2 : Int) = (j2 : Int) := by rw [IntKind.wrap_i64]; omega
      have s3 : IntKind.i64.wrap (j3 : Int) = (j3 : Int) := by rw [IntKind.wrap_i64]; omega
      have n0 : 4 * (k : Int) = (j0 : Int) := by omega
      have n1 : (j0 : Int) + 1 = (j1 : Int) := by omega
      have n2 : (j0 : Int) + 2 = (j2 : Int) := by omega
      have n3 : (j0 : Int) + 3 = (j3 : Int) := by omega
      have l0 : (j0 : Int) < 64 := by omega
      have l1 : (j1 : Int) < 64 := by omega
      have l2 : (j2 : Int) < 64 := by omega
      have l3 : (j3 : Int) < 64 := by omega
      clear h0 h1 h2 h3
      have l4 : (k : Int) < 64 := by omega
      go_wp2_with fail
      obtain ⟨w9, hw9⟩ : ∃ x, x = wr.drew := ⟨_, rfl⟩
      refine wp_region_still_tail 39 (by kernel_rfl) (by kernel_rfl) ?_
      simp only [List.take_succ_cons, List.take_zero, List.drop_succ_cons, List.drop_zero]
      change wpStill _ _ wr.drew (fun a' => wpList _ _ _ _ a' wr.drew) _ _
      rw [← hw9]
      replace c0 : w9.cell? ⟨bb, j0, none⟩ = some (.int .u8 (b0 : Int)) := by rw [hw9]; exact c0
      replace c1 : w9.cell? ⟨bb, j1, none⟩ = some (.int .u8 (b1 : Int)) := by rw [hw9]; exact c1
      replace c2 : w9.cell? ⟨bb, j2, none⟩ = some (.int .u8 (b2 : Int)) := by rw [hw9]; exact c2
      replace c3 : w9.cell? ⟨bb, j3, none⟩ = some (.int .u8 (b3 : Int)) := by rw [hw9]; exact c3
      replace c4 : w9.cell? ⟨w.heap.size + 1, k, none⟩ = some (.int .u32 (y : Int)) := by rw [hw9]; exact c4
      replace hf : w9.frozen? ⟨w.heap.size + 1, k, none⟩ = false := by rw [hw9]; exact hf
      have HS9 := Lib.hid (show Blk (w.heap.size + 1) 161 .u32 (arrW (bAt bl) (k + 1)) (w9.setCell ⟨w.heap.size + 1, k, none⟩ (.int .u32 ((wordN (bAt bl) k : Nat) : Int))) by rw [hw9]; exact HS.out)
      have HR9 := Lib.hid (show Blk w.heap.size 161 .u32 (List.replicate 64 0) w9 by rw [hw9]; exact HR.out)
      have HB9 := Lib.hid (show Below w.heap.size w w9 by rw [hw9]; exact HB.out.drew)
      clear hw9 HS HR HB HW
      repeat still_step
      refine wpStill_nil ?_
      go_wp2_with fail
      rw [HV.out]
      exact ⟨⟨k + 1, by omega, by go_num, HS9.out, HR9.out.but ((But.refl _ _).setCell _ _) (by omega), HB9.out.setCell (by simp) _⟩, by simp [intOf]; omega⟩
    · obtain rfl : k = 16 := by omega
      rw [show ((16 : Nat) : Int) = 16 from rfl]
      go_wp2_with fail
      go_loopw [5] (fun i wq => ∃ k : Nat, 16 ≤ k ∧ k ≤ 64 ∧ i = .int .i64 k ∧ Blk (w.heap.size + 1) 161 .u32 (arrW (bAt bl) k) wq ∧ Blk w.heap.size 161 .u32 (List.replicate 64 0) wq ∧ Below w.heap.size w wq) (fun i _ => 64 - (intOf i).toNat)
      case atStart => exact ⟨16, by omega, by omega, rfl, HW.out, HR.out, HB.out⟩
      case round =>
        clear HW HR HB
        obtain ⟨k, hk16, hk, rfl, hw, hr, hb⟩ := hrel
        have HW := Lib.hid hw
        have HR := Lib.hid hr
        have HB := Lib.hid hb
        clear hw hr hb
        by_cases hlk : k < 64
        · have hwl := wl_lt HBY.out k
          have hal := arrW_len (bAt bl) hk
          obtain ⟨j16, hj16⟩ : ∃ j, j = k - 16 := ⟨_, rfl⟩
          obtain ⟨j7, hj7⟩ : ∃ j, j = k - 7 := ⟨_, rfl⟩
          obtain ⟨j15, hj15⟩ : ∃ j, j = k - 15 := ⟨_, rfl⟩
          obtain ⟨j2, hj2⟩ : ∃ j, j = k - 2 := ⟨_, rfl⟩
          have a16 := HW.out.cell j16 (by omega)
          have a7 := HW.out.cell j7 (by omega)
          have a15 := HW.out.cell j15 (by omega)
          have a2 := HW.out.cell j2 (by omega)
          rw [arrW_get _ (by omega) hk] at a16 a7 a15 a2
          have x15 := getD_lt hwl (by decide) j15
          have x2 := getD_lt hwl (by decide) j2
          have x16 := getD_lt hwl (by decide) j16
          have x7 := getD_lt hwl (by decide) j7
          have hnx : nextW (wl (bAt bl) k) k = ((wl (bAt bl) k).getD (k - 16) 0 + (wl (bAt bl) k).getD (k - 7) 0 + s0 ((wl (bAt bl) k).getD (k - 15) 0) + s1 ((wl (bAt bl) k).getD (k - 2) 0)) % 4294967296 := rfl
          rw [← hj16, ← hj7, ← hj15, ← hj2] at hnx
          generalize (wl (bAt bl) k).getD j16 0 = y16 at a16 x16 hnx
          generalize (wl (bAt bl) k).getD j7 0 = y7 at a7 x7 hnx
          generalize (wl (bAt bl) k).getD j15 0 = y15 at a15 x15 hnx
          generalize (wl (bAt bl) k).getD j2 0 = y2 at a2 x2 hnx
          have HNX := Lib.hid hnx
          have ak := HW.out.cell k (by omega)
          have hf := HW.out.frozen k
          have HS := Lib.hid (HW.out.set k (nextW (wl (bAt bl) k) k))
          rw [arrW_next (by omega) hlk] at HS
          generalize (arrW (bAt bl) k).getD k 0 = y at ak
          have e16 : IntKind.i64.wrap ((k : Int) - 16) = (j16 : Int) := by rw [IntKind.wrap_i64]; omega
          have e7 : IntKind.i64.wrap ((k : Int) - 7) = (j7 : Int) := by rw [IntKind.wrap_i64]; omega
          have e15 : IntKind.i64.wrap ((k : Int) - 15) = (j15 : Int) := by rw [IntKind.wrap_i64]; omega
          have e2 : IntKind.i64.wrap ((k : Int) - 2) = (j2 : Int) := by rw [IntKind.wrap_i64]; omega
          have d16 : (k : Int) - 16 = (j16 : Int) := by omega
          have d7 : (k : Int) - 7 = (j7 : Int) := by omega
          have d15 : (k : Int) - 15 = (j15 : Int) := by omega
          have d2 : (k : Int) - 2 = (j2 : Int) := by omega
          have q16 : IntKind.i64.wrap (j16 : Int) = (j16 : Int) := by rw [IntKind.wrap_i64]; omega
          have q7 : IntKind.i64.wrap (j7 : Int) = (j7 : Int) := by rw [IntKind.wrap_i64]; omega
          have q15 : IntKind.i64.wrap (j15 : Int) = (j15 : Int) := by rw [IntKind.wrap_i64]; omega
          have q2 : IntKind.i64.wrap (j2 : Int) = (j2 : Int) := by rw [IntKind.wrap_i64]; omega
          have b16 : (j16 : Int) < 64 := by omega
          have b7 : (j7 : Int) < 64 := by omega
          have b15 : (j15 : Int) < 64 := by omega
          have b2 : (j2 : Int) < 64 := by omega
          have bk : (k : Int) < 64 := by omega
          clear hwl hal hnx hj16 hj7 hj15 hj2
          go_wp2_with fail
          go_quiet (fail)
          go_wp2_with fail
          refine (right_lit y15 _ 7 _ x15 rfl (by decide) (by decide)).mono ?_
          rintro e w5 ⟨rfl, rfl⟩
          go_wp2_with fail
          refine (right_lit y15 _ 18 _ x15 rfl (by decide) (by decide)).mono ?_
          rintro e w5 ⟨rfl, rfl⟩
          go_wp2_with fail
          refine (right_lit y2 _ 17 _ x2 rfl (by decide) (by decide)).mono ?_
          rintro e w5 ⟨rfl, rfl⟩
          go_wp2_with fail
          refine (right_lit y2 _ 19 _ x2 rfl (by decide) (by decide)).mono ?_
          rintro e w5 ⟨rfl, rfl⟩
          go_wp2_with fail
          obtain ⟨w9, hw9⟩ : ∃ x, x = (wr.drewN nq).drew := ⟨_, rfl⟩
          refine wp_region_still_tail 15 (by kernel_rfl) (by kernel_rfl) ?_
          simp only [List.take_succ_cons, List.take_zero, List.drop_succ_cons, List.drop_zero]
          change wpStill _ _ (wr.drewN nq).drew (fun a' => wpList _ _ _ _ a' (wr.drewN nq).drew) _ _
          rw [← hw9]
          replace a16 : w9.cell? ⟨w.heap.size + 1, j16, none⟩ = some (.int .u32 (y16 : Int)) := by rw [hw9]; exact a16
          replace a7 : w9.cell? ⟨w.heap.size + 1, j7, none⟩ = some (.int .u32 (y7 : Int)) := by rw [hw9]; exact a7
          replace ak : w9.cell? ⟨w.heap.size + 1, k, none⟩ = some (.int .u32 (y : Int)) := by rw [hw9]; exact ak
          replace hf : w9.frozen? ⟨w.heap.size + 1, k, none⟩ = false := by rw [hw9]; exact hf
          have HS9 := Lib.hid (show Blk (w.heap.size + 1) 161 .u32 (arrW (bAt bl) (k + 1)) (w9.setCell ⟨w.heap.size + 1, k, none⟩ (.int .u32 ((nextW (wl (bAt bl) k) k : Nat) : Int))) by rw [hw9]; exact HS.out)
          have HR9 := Lib.hid (show Blk w.heap.size 161 .u32 (List.replicate 64 0) w9 by rw [hw9]; exact HR.out)
          have HB9 := Lib.hid (show Below w.heap.size w w9 by rw [hw9]; exact drawn_below HB.out (nq + 1))
          clear hw9 HS HR HB HW a15 a2
          repeat still_step
          refine wpStill_nil ?_
          go_wp2_with fail
          have hv := w_int y16 y7 y15 y2 x15 x2 (by omega) (by omega)
          rw [← HNX.out, show ((y15 / 8 : Nat) : Int) = (y15 : Int) / 8 by omega, show ((y2 / 1024 : Nat) : Int) = (y2 : Int) / 1024 by omega] at hv
          rw [hv]
          exact ⟨⟨k + 1, by omega, by omega, by go_num, HS9.out, HR9.out.but ((But.refl _ _).setCell _ _) (by omega), HB9.out.setCell (by simp) _⟩, by simp [intOf]; omega⟩
        · obtain rfl : k = 64 := by omega
          rw [show ((64 : Nat) : Int) = 64 from rfl]
          rw [arrW_full] at HW
          have HI := Lib.hid (show (Tryz.prog.info? 161).map (·.size) = some (nums .u32 (wl (bAt bl) 64)).toArray.size by rw [nums_size, wl_len]; exact Tryz.infoW)
          have HL2 := Lib.hid (show (nums .u32 (List.replicate 64 0)).toArray.size = (nums .u32 (wl (bAt bl) 64)).toArray.size by rw [nums_size, nums_size, wl_len, List.length_replicate])
          go_wp2_with (first | (refine wpList_load_row rfl 161 _ rfl (w.heap.size + 1) rfl 161 _ _ _ HW.out Tryz.underlying161 rfl HI.out ?_) | (refine wpList_store_rowTo rfl 161 _ _ rfl rfl w.heap.size (nums .u32 (wl (bAt bl) 64)).toArray rfl rfl 161 _ HR.out HI.out HL2.out (nums_all _ _) ?_))
          exact bodyPost_ret (results_cell_row rfl _ _ w.heap.size 161 _ (0, 0) _ rfl (setRow_heap _ _ _ _ _ _ HR.out) Tryz.underlying161 rfl HI.out) rfl ⟨rfl, below_setRow HB.out (Nat.le_refl _) _⟩
end Go.Proofs.YtpfhlhcnmeodbaaGreatDoor
namespace Go.Proofs.YtpfhlhcnmeodbaaGreatDoor
open Go.RowKit
set_option maxHeartbeats 4000000 in
set_option maxRecDepth 100000 in
theorem mix_loop1 {q0 q1 q2 q3 q4 q5 q6 q7 wb : Nat} {t : TypeId} {Wl : List Nat} {w : World}
    {ca0 ca1 ca2 ca3 ub13 ub14 ub15 ca16 ca17 ca18 ca19 ca20 ca21 ca22 ca23 ca24 ca25 ca26 ca27 ca28 ca29 ca30 ca31 ca32 ca33 ca34 ca35 ca36 ca37 ca38
    ca39 ca40 ca41 ca42 ca43 ca44 ca45 ca46 ca47 ca48 ca49 ca50 ca51 ub53 ub54 ub55 ub56 ub57 ub58 ub59 ub60 ub61 ub62 ub63 ub64 ub65 ub66 ub67 ub68 ub69
    ub70 ub71 ub72 ub73 ub74 ub75 ub76 ub77 ub78 ub79 ub80 ub81 ub82 ub83 ub84 ub85 ub86 ub87 ub88 ub89 ub90 ub91 ub92 ub93 ub94 ub95 ub96 ub97 ub98 ub99
    ub100 ub101 ub102 ub103 ub104 ub105 ub106 ub107 ub108 ub109 ub110 ub111 ub112 ub113 ub114 ca115 ca116 ca117 ca118 ca119 ca120 ca121 ca122 ca123 ca124 ca125 ca126 ca127 ca128 ca129
    ca130 ca131 ca132 ca133 ca134 ca135 ca136 ca137 : Value}
    (HOK : Hid (S8.Ok ⟨q0, q1, q2, q3, q4, q5, q6, q7⟩)) (HWl : Hid (∀ x ∈ Wl, x < 4294967296)) (HWL : Hid (Wl.length = 64)) (HW : Hid (Blk wb t .u32 Wl w)) (HK : Hid (KAt w))
    (R : Act → World → Prop)
    (hexit : Hid (∀ (p0 p1 p2 p3 p4 p5 p6 p7 : Nat) (w1 : World), rl ⟨q0, q1, q2, q3, q4, q5, q6, q7⟩ Wl 64 = ⟨p0, p1, p2, p3, p4, p5, p6, p7⟩ ∧ Below w.heap.size w w1 → ∀ {vb13 vb14 vb15 vb52 vb53 vb54 vb55 vb56 vb57 vb58 vb59 vb60 vb61 vb62 vb63 vb64 vb65 vb66 vb67 vb68 vb69 vb70 vb71 vb72 vb73 vb74 vb75 vb76 vb77 vb78
    vb79 vb80 vb81 vb82 vb83 vb84 vb85 vb86 vb87 vb88 vb89 vb90 vb91 vb92 vb93 vb94 vb95 vb96 vb97 vb98 vb99 vb100 vb101 vb102 vb103 vb104 vb105 vb106 vb107 vb108
    vb109 vb110 vb111 vb112 vb113 vb114 : Value},
      R ⟨List.toArray (ca0 :: ca1 :: ca2 :: ca3 :: .pointer (some ⟨wb, 0, none⟩) :: .int .u32 (p0 : Int) :: .int .u32 (p1 : Int) :: .int .u32 (p2 : Int) :: .int .u32 (p3 : Int) :: .int .u32 (p4 : Int) :: .int .u32 (p5 : Int) :: .int .u32 (p6 : Int) ::
      .int .u32 (p7 : Int) :: vb13 :: vb14 :: vb15 :: ca16 :: ca17 :: ca18 :: ca19 :: ca20 :: ca21 :: ca22 :: ca23 :: ca24 :: ca25 :: ca26 :: ca27 :: ca28 :: ca29 :: ca30 :: ca31 :: ca32 :: ca33 :: ca34 :: ca35 :: ca36 :: ca37 ::
      ca38 :: ca39 :: ca40 :: ca41 :: ca42 :: ca43 :: ca44 :: ca45 :: ca46 :: ca47 :: ca48 :: ca49 :: ca50 :: ca51 :: vb52 :: vb53 :: vb54 :: vb55 :: vb56 :: vb57 :: vb58 :: vb59 :: vb60 :: vb61 :: vb62 :: vb63 :: vb64 :: vb65 ::
      vb66 :: vb67 :: vb68 :: vb69 :: vb70 :: vb71 :: vb72 :: vb73 :: vb74 :: vb75 :: vb76 :: vb77 :: vb78 :: vb79 :: vb80 :: vb81 :: vb82 :: vb83 :: vb84 :: vb85 :: vb86 :: vb87 :: vb88 :: vb89 :: vb90 :: vb91 :: vb92 :: vb93 ::
      vb94 :: vb95 :: vb96 :: vb97 :: vb98 :: vb99 :: vb100 :: vb101 :: vb102 :: vb103 :: vb104 :: vb105 :: vb106 :: vb107 :: vb108 :: vb109 :: vb110 :: vb111 :: vb112 :: vb113 :: vb114 :: ca115 :: ca116 :: ca117 :: ca118 :: ca119 ::
      ca120 :: ca121 :: ca122 :: ca123 :: ca124 :: ca125 :: ca126 :: ca127 :: ca128 :: ca129 :: ca130 :: ca131 :: ca132 :: ca133 :: ca134 :: ca135 :: ca136 :: ca137 :: []), []⟩ w1)) :
    Code.wp Tryz.prog (Code.loop (loopAt Tryz.f110 0)) (Ends 0 R) ⟨List.toArray (ca0 :: ca1 :: ca2 :: ca3 :: .pointer (some ⟨wb, 0, none⟩) :: .int .u32 (q0 : Int) :: .int .u32 (q1 : Int) :: .int .u32 (q2 : Int) :: .int .u32 (q3 : Int) :: .int .u32 (q4 : Int) :: .int .u32 (q5 : Int) :: .int .u32 (q6 : Int) ::
      .int .u32 (q7 : Int) :: ub13 :: ub14 :: ub15 :: ca16 :: ca17 :: ca18 :: ca19 :: ca20 :: ca21 :: ca22 :: ca23 :: ca24 :: ca25 :: ca26 :: ca27 :: ca28 :: ca29 :: ca30 :: ca31 :: ca32 :: ca33 :: ca34 :: ca35 :: ca36 :: ca37 ::
      ca38 :: ca39 :: ca40 :: ca41 :: ca42 :: ca43 :: ca44 :: ca45 :: ca46 :: ca47 :: ca48 :: ca49 :: ca50 :: ca51 :: .int .i64 0 :: ub53 :: ub54 :: ub55 :: ub56 :: ub57 :: ub58 :: ub59 :: ub60 :: ub61 :: ub62 :: ub63 :: ub64 ::
      ub65 :: ub66 :: ub67 :: ub68 :: ub69 :: ub70 :: ub71 :: ub72 :: ub73 :: ub74 :: ub75 :: ub76 :: ub77 :: ub78 :: ub79 :: ub80 :: ub81 :: ub82 :: ub83 :: ub84 :: ub85 :: ub86 :: ub87 :: ub88 :: ub89 :: ub90 :: ub91 :: ub92 ::
      ub93 :: ub94 :: ub95 :: ub96 :: ub97 :: ub98 :: ub99 :: ub100 :: ub101 :: ub102 :: ub103 :: ub104 :: ub105 :: ub106 :: ub107 :: ub108 :: ub109 :: ub110 :: ub111 :: ub112 :: ub113 :: ub114 :: ca115 :: ca116 :: ca117 :: ca118 ::
      ca119 :: ca120 :: ca121 :: ca122 :: ca123 :: ca124 :: ca125 :: ca126 :: ca127 :: ca128 :: ca129 :: ca130 :: ca131 :: ca132 :: ca133 :: ca134 :: ca135 :: ca136 :: ca137 :: []), []⟩ w := by
  conv => arg 2; arg 1; whnf
  go_loopw [5, 6, 7, 8, 9, 10, 11, 12, 52] (fun s0 s1 s2 s3 s4 s5 s6 s7 i wq => ∃ k p0 p1 p2 p3 p4 p5 p6 p7 : Nat, k ≤ 64 ∧ i = .int .i64 k ∧ rl ⟨q0, q1, q2, q3, q4, q5, q6, q7⟩ Wl k = ⟨p0, p1, p2, p3, p4, p5, p6, p7⟩ ∧ Below w.heap.size w wq ∧ s0 = .int .u32 (p0 : Int) ∧ s1 = .int .u32 (p1 : Int) ∧ s2 = .int .u32 (p2 : Int) ∧ s3 = .int .u32 (p3 : Int) ∧ s4 = .int .u32 (p4 : Int) ∧ s5 = .int .u32 (p5 : Int) ∧ s6 = .int .u32 (p6 : Int) ∧ s7 = .int .u32 (p7 : Int)) (fun _ _ _ _ _ _ _ _ i _ => 64 - (intOf i).toNat)
  case atStart => exact ⟨0, q0, q1, q2, q3, q4, q5, q6, q7, by omega, rfl, rfl, Below.refl _ _, rfl, rfl, rfl, rfl, rfl, rfl, rfl, rfl⟩
  case round =>
    obtain ⟨k, p0, p1, p2, p3, p4, p5, p6, p7, hk, rfl, hr, hb, rfl, rfl, rfl, rfl, rfl, rfl, rfl, rfl⟩ := hrel
    have hok := rl_ok HOK.out Wl k
    rw [hr] at hok
    have HR := Lib.hid hr
    have HB := Lib.hid hb
    clear hr hb
    by_cases hlk : k < 64
    · have cK := HK.out.below HB.out k hlk
      have cW := (HW.out.below HB.out).cell k (by rw [HWL.out]; exact hlk)
      have xK := getD_lt shaK_lt (by decide) k
      have xW := getD_lt HWl.out (by decide) k
      have HX := Lib.hid (show rl ⟨q0, q1, q2, q3, q4, q5, q6, q7⟩ Wl (k + 1) = rnd (rl ⟨q0, q1, q2, q3, q4, q5, q6, q7⟩ Wl k) (shaK.getD k 0) (Wl.getD k 0) from rfl)
      rw [HR.out] at HX
      generalize shaK.getD k 0 = kk at cK xK HX
      generalize Wl.getD k 0 = ww at cW xW HX
      obtain ⟨b0, b1, b2, b3, b4, b5, b6, b7⟩ := hok
      simp only at b0 b1 b2 b3 b4 b5 b6 b7
      have bk : (k : Int) < 64 := by omega
      go_wp2_with fail
      go_quiet (first | (go_at_call 116; refine Calls.quiet_of_same (right_int _ _ _ (by assumption) (by decide) (by decide))))
      go_wp2_with fail
      rw [t_int p0 p1 p2 p3 p4 p5 p6 p7 kk ww b4 b5 b6]
      have HT := Lib.hid (show rnd ⟨p0, p1, p2, p3, p4, p5, p6, p7⟩ kk ww = ⟨(tN ⟨p0, p1, p2, p3, p4, p5, p6, p7⟩ kk ww + uN ⟨p0, p1, p2, p3, p4, p5, p6, p7⟩) % 4294967296, p0, p1, p2, (p3 + tN ⟨p0, p1, p2, p3, p4, p5, p6, p7⟩ kk ww) % 4294967296, p4, p5, p6⟩ from rfl)
      rw [HT.out] at HX
      have ht := tN_lt ⟨p0, p1, p2, p3, p4, p5, p6, p7⟩ kk ww
      have hu := uN_lt ⟨p0, p1, p2, p3, p4, p5, p6, p7⟩
      have HU := Lib.hid (u_int p0 p1 p2 p3 p4 p5 p6 p7 b0 b1 b2)
      clear HT
      generalize tN ⟨p0, p1, p2, p3, p4, p5, p6, p7⟩ kk ww = tt at ht HX ⊢
      generalize uN ⟨p0, p1, p2, p3, p4, p5, p6, p7⟩ = uu at hu HX HU
      refine (right_lit p0 _ 2 _ b0 rfl (by decide) (by decide)).mono ?_
      rintro e w5 ⟨rfl, rfl⟩
      go_wp2_with fail
      refine (right_lit p0 _ 13 _ b0 rfl (by decide) (by decide)).mono ?_
      rintro e w5 ⟨rfl, rfl⟩
      go_wp2_with fail
      refine (right_lit p0 _ 22 _ b0 rfl (by decide) (by decide)).mono ?_
      rintro e w5 ⟨rfl, rfl⟩
      go_wp2_with fail
      rw [HU.out]
      exact ⟨⟨k + 1, (tt + uu) % 4294967296, p0, p1, p2, (p3 + tt) % 4294967296, p4, p5, p6, by omega, by go_num, HX.out, drawn_below HB.out nq,
        by rw [show (((tt + uu) % 4294967296 : Nat) : Int) = ((tt : Int) + (uu : Int)) % 4294967296 by omega], rfl, rfl, rfl,
        by rw [show (((p3 + tt) % 4294967296 : Nat) : Int) = ((p3 : Int) + (tt : Int)) % 4294967296 by omega], rfl, rfl, rfl⟩, by simp [intOf]; omega⟩
    · obtain rfl : k = 64 := by omega
      rw [show ((64 : Nat) : Int) = 64 from rfl]
      go_wp2_with fail
      exact ends_exit (hexit.out _ _ _ _ _ _ _ _ _ ⟨HR.out, HB.out⟩)
end Go.Proofs.YtpfhlhcnmeodbaaGreatDoor
namespace Go.Proofs.YtpfhlhcnmeodbaaGreatDoor
open Go.RowKit
set_option maxHeartbeats 4000000 in
set_option maxRecDepth 100000 in
theorem mix_loop2 {bs : Nat} {t : TypeId} {h0 vv : S8} {w : World}
    {ca1 ca2 ca3 ca4 ca5 ca6 ca7 ca8 ca9 ca10 ca11 ca12 ca13 ca14 ca15 ub16 ub17 ca18 ca19 ca20 ca21 ca22 ca23 ca24 ca25 ca26 ca27 ca28 ca29 ca30
    ca31 ca32 ca33 ca34 ca35 ca36 ca37 ca38 ca39 ca40 ca41 ca42 ca43 ca44 ca45 ca46 ca47 ca48 ca49 ca50 ca51 ca52 ca53 ca54 ca55 ca56 ca57 ca58 ca59 ca60
    ca61 ca62 ca63 ca64 ca65 ca66 ca67 ca68 ca69 ca70 ca71 ca72 ca73 ca74 ca75 ca76 ca77 ca78 ca79 ca80 ca81 ca82 ca83 ca84 ca85 ca86 ca87 ca88 ca89 ca90
    ca91 ca92 ca93 ca94 ca95 ca96 ca97 ca98 ca99 ca100 ca101 ca102 ca103 ca104 ca105 ca106 ca107 ca108 ca109 ca110 ca111 ca112 ca113 ca114 ca115 ca116 ca117 ca118 ca119 ca120
    ca121 ca122 ub125 ub126 ub127 ub128 ub129 ub130 ub131 ub132 ub133 ub134 ub135 ub136 ub137 : Value}
    (HOH : Hid h0.Ok) (HOV : Hid vv.Ok) (HH : Hid (Blk bs t .u32 h0.list w))
    (R : Act → World → Prop)
    (hexit : Hid (∀  (w1 : World), Blk bs t .u32 (addS h0 vv).list w1 ∧ But bs w w1 → ∀ {vb16 vb17 vb124 vb125 vb126 vb127 vb128 vb129 vb130 vb131 vb132 vb133 vb134 vb135 vb136 vb137 : Value},
      R ⟨List.toArray (.pointer (some ⟨bs, 0, none⟩) :: ca1 :: ca2 :: ca3 :: ca4 :: ca5 :: ca6 :: ca7 :: ca8 :: ca9 :: ca10 :: ca11 :: ca12 :: ca13 :: ca14 :: ca15 :: vb16 :: vb17 :: ca18 :: ca19 :: ca20 :: ca21 :: ca22 :: ca23 :: ca24 :: ca25 ::
      ca26 :: ca27 :: ca28 :: ca29 :: ca30 :: ca31 :: ca32 :: ca33 :: ca34 :: ca35 :: ca36 :: ca37 :: ca38 :: ca39 :: ca40 :: ca41 :: ca42 :: ca43 :: ca44 :: ca45 :: ca46 :: ca47 :: ca48 :: ca49 :: ca50 :: ca51 :: ca52 :: ca53 ::
      ca54 :: ca55 :: ca56 :: ca57 :: ca58 :: ca59 :: ca60 :: ca61 :: ca62 :: ca63 :: ca64 :: ca65 :: ca66 :: ca67 :: ca68 :: ca69 :: ca70 :: ca71 :: ca72 :: ca73 :: ca74 :: ca75 :: ca76 :: ca77 :: ca78 :: ca79 :: ca80 :: ca81 ::
      ca82 :: ca83 :: ca84 :: ca85 :: ca86 :: ca87 :: ca88 :: ca89 :: ca90 :: ca91 :: ca92 :: ca93 :: ca94 :: ca95 :: ca96 :: ca97 :: ca98 :: ca99 :: ca100 :: ca101 :: ca102 :: ca103 :: ca104 :: ca105 :: ca106 :: ca107 :: ca108 ::
      ca109 :: ca110 :: ca111 :: ca112 :: ca113 :: ca114 :: ca115 :: ca116 :: ca117 :: ca118 :: ca119 :: ca120 :: ca121 :: ca122 :: .agg (nums .u32 vv.list).toArray :: vb124 :: vb125 :: vb126 :: vb127 :: vb128 :: vb129 :: vb130 ::
      vb131 :: vb132 :: vb133 :: vb134 :: vb135 :: vb136 :: vb137 :: []), []⟩ w1)) :
    Code.wp Tryz.prog (Code.loop (loopAt Tryz.f110 1)) (Ends 2 R) ⟨List.toArray (.pointer (some ⟨bs, 0, none⟩) :: ca1 :: ca2 :: ca3 :: ca4 :: ca5 :: ca6 :: ca7 :: ca8 :: ca9 :: ca10 :: ca11 :: ca12 :: ca13 :: ca14 :: ca15 :: ub16 :: ub17 :: ca18 :: ca19 :: ca20 :: ca21 :: ca22 :: ca23 :: ca24 :: ca25 ::
      ca26 :: ca27 :: ca28 :: ca29 :: ca30 :: ca31 :: ca32 :: ca33 :: ca34 :: ca35 :: ca36 :: ca37 :: ca38 :: ca39 :: ca40 :: ca41 :: ca42 :: ca43 :: ca44 :: ca45 :: ca46 :: ca47 :: ca48 :: ca49 :: ca50 :: ca51 :: ca52 :: ca53 ::
      ca54 :: ca55 :: ca56 :: ca57 :: ca58 :: ca59 :: ca60 :: ca61 :: ca62 :: ca63 :: ca64 :: ca65 :: ca66 :: ca67 :: ca68 :: ca69 :: ca70 :: ca71 :: ca72 :: ca73 :: ca74 :: ca75 :: ca76 :: ca77 :: ca78 :: ca79 :: ca80 :: ca81 ::
      ca82 :: ca83 :: ca84 :: ca85 :: ca86 :: ca87 :: ca88 :: ca89 :: ca90 :: ca91 :: ca92 :: ca93 :: ca94 :: ca95 :: ca96 :: ca97 :: ca98 :: ca99 :: ca100 :: ca101 :: ca102 :: ca103 :: ca104 :: ca105 :: ca106 :: ca107 :: ca108 ::
      ca109 :: ca110 :: ca111 :: ca112 :: ca113 :: ca114 :: ca115 :: ca116 :: ca117 :: ca118 :: ca119 :: ca120 :: ca121 :: ca122 :: .agg (nums .u32 vv.list).toArray :: .int .i64 0 :: ub125 :: ub126 :: ub127 :: ub128 :: ub129 ::
      ub130 :: ub131 :: ub132 :: ub133 :: ub134 :: ub135 :: ub136 :: ub137 :: []), []⟩ w := by
  conv => arg 2; arg 1; whnf
  go_loopw [124] (fun i wq => ∃ k : Nat, k ≤ 8 ∧ i = .int .i64 k ∧ Blk bs t .u32 (addL h0.list vv.list k) wq ∧ But bs w wq) (fun i _ => 8 - (intOf i).toNat)
  case atStart => exact ⟨0, by omega, rfl, HH.out, But.refl _ _⟩
  case round =>
    clear HH
    obtain ⟨k, hk, rfl, ho, hb2⟩ := hrel
    have HH := Lib.hid ho
    have HB := Lib.hid hb2
    clear ho hb2
    by_cases hlk : k < 8
    · have hlen := addL_len h0.list vv.list k
      rw [S8.list_len] at hlen
      have c1 := HH.out.cell k (by omega)
      have hf := HH.out.frozen k
      rw [addL_at _ _ _ _ (Nat.le_refl k)] at c1
      have hx := getD_lt HOH.out.lt (by decide) k
      have hy := getD_lt HOV.out.lt (by decide) k
      have HS := Lib.hid (HH.out.set k ((h0.list.getD k 0 + vv.list.getD k 0) % 4294967296))
      have HA := Lib.hid (show addL h0.list vv.list (k + 1) = (addL h0.list vv.list k).set k ((h0.list.getD k 0 + vv.list.getD k 0) % 4294967296) from rfl)
      have hix := fun w => run_index_nums (P := Tryz.prog) 150 143 8 .u32 vv.list k w Tryz.underlying150 (S8.list_len vv) Tryz.sizeOf143 Tryz.isAgg143 hlk
      generalize h0.list.getD k 0 = x at c1 hx HS HA
      generalize vv.list.getD k 0 = y at hix hy HS HA
      have bk : (k : Int) < 8 := by omega
      clear hlen
      go_wp2_with fail
      clear hix
      go_region
      go_wp2_with fail
      have hv : (((x + y) % 4294967296 : Nat) : Int) = ((x : Int) + (y : Int)) % 4294967296 := by omega
      exact ⟨⟨k + 1, by omega, by go_num, by
        rw [HA.out]
        have h := HS.out
        rw [hv] at h
        exact h, (HB.out.setCell _ _).drew⟩, by simp [intOf]; omega⟩
    · obtain rfl : k = 8 := by omega
      rw [show ((8 : Nat) : Int) = 8 from rfl]
      go_wp2_with fail
      exact ends_exit (hexit.out _ ⟨by have := HH.out; rwa [addL_eight] at this, HB.out⟩)
end Go.Proofs.YtpfhlhcnmeodbaaGreatDoor
namespace Go.Proofs.YtpfhlhcnmeodbaaGreatDoor
open Go.RowKit
set_option maxHeartbeats 4000000 in
set_option maxRecDepth 100000 in
theorem mix_any (bs bb : Nat) (ts tb : TypeId) (v : S8) (bl : List Nat) (w : World) (hv : v.Ok) (hlen : bl.length = 64) (hbl : ∀ x ∈ bl, x < 256)
    (hs : Blk bs ts .u32 v.list w) (hc : Blk bb tb .u8 bl w) (hk : KAt w) :
    Calls Tryz.prog 110 #[.pointer (some ⟨bs, 0, none⟩), .pointer (some ⟨bb, 0, none⟩)] w fun e w' => e = .returned (.tuple #[]) ∧ Blk bs ts .u32 (block v (bAt bl)).list w' ∧ But bs w w' := by
  have HV := Lib.hid hv
  have HS := Lib.hid hs
  have HK := Lib.hid hk
  have HSC := Lib.hid (schedule_any bb tb bl w hlen hbl hc)
  have HWl := Lib.hid (wl_lt (bAt_lt hbl) 64)
  have HWL := Lib.hid (wl_len (bAt bl) 64)
  have HBL := Lib.hid (show block v (bAt bl) = addS v (rl v (wl (bAt bl) 64) 64) from rfl)
  clear hv hs hk hlen hbl hc
  go_enter Tryz.func110, Tryz.ntmps110
  go_wp2_with fail
  refine HSC.out.mono ?_
  rintro e w1 ⟨rfl, hb⟩
  generalize wl (bAt bl) 64 = Wl at HWl HWL HBL ⊢
  clear HSC
  have HI := Lib.hid (show (Tryz.prog.info? 161).map (·.size) = some (nums .u32 Wl).toArray.size by rw [nums_size, HWL.out]; exact Tryz.infoW)
  have HL2 := Lib.hid (show (nums .u32 (List.replicate 64 0)).toArray.size = (nums .u32 Wl).toArray.size by rw [nums_size, nums_size, HWL.out, List.length_replicate])
  have HZ := Lib.hid (show Blk w1.heap.size 161 .u32 (List.replicate 64 0) (w1.alloc (.cells (nums .u32 (List.replicate 64 0)).toArray 161)) from heap_alloc_new w1 _)
  have HB := Lib.hid hb
  clear hb
  go_wp2_with (refine wpList_store_rowTo rfl 161 _ _ rfl rfl w1.heap.size (nums .u32 Wl).toArray rfl rfl 161 _ HZ.out HI.out HL2.out (nums_all _ _) ?_)
  change Code.wp _ _ _ _ ((w1.alloc (.cells (nums .u32 (List.replicate 64 0)).toArray 161)).setRow w1.heap.size (nums .u32 Wl).toArray)
  obtain ⟨w2, hw2⟩ : ∃ x, x = (w1.alloc (.cells (nums .u32 (List.replicate 64 0)).toArray 161)).setRow w1.heap.size (nums .u32 Wl).toArray := ⟨_, rfl⟩
  rw [← hw2]
  have hsz := HB.out.size
  have HW := Lib.hid (show Blk w1.heap.size 161 .u32 Wl w2 by rw [hw2]; exact HZ.out.row)
  have hb2 : Below w.heap.size w w2 := by rw [hw2]; exact below_setRow (HB.out.alloc hsz _) hsz _
  have HS2 := Lib.hid (HS.out.below hb2)
  have HK2 := Lib.hid (HK.out.below hb2)
  have HB2 := Lib.hid hb2
  have hlt := HS.out.lt
  clear hw2 hb2 HS HK HB HZ HI HL2
  obtain ⟨q0, q1, q2, q3, q4, q5, q6, q7⟩ := v
  have c0 : w2.cell? ⟨bs, 0, none⟩ = some (.int .u32 (q0 : Int)) := HS2.out.cell 0 (by rw [S8.list_len]; omega)
  have c1 : w2.cell? ⟨bs, 1, none⟩ = some (.int .u32 (q1 : Int)) := HS2.out.cell 1 (by rw [S8.list_len]; omega)
  have c2 : w2.cell? ⟨bs, 2, none⟩ = some (.int .u32 (q2 : Int)) := HS2.out.cell 2 (by rw [S8.list_len]; omega)
  have c3 : w2.cell? ⟨bs, 3, none⟩ = some (.int .u32 (q3 : Int)) := HS2.out.cell 3 (by rw [S8.list_len]; omega)
  have c4 : w2.cell? ⟨bs, 4, none⟩ = some (.int .u32 (q4 : Int)) := HS2.out.cell 4 (by rw [S8.list_len]; omega)
  have c5 : w2.cell? ⟨bs, 5, none⟩ = some (.int .u32 (q5 : Int)) := HS2.out.cell 5 (by rw [S8.list_len]; omega)
  have c6 : w2.cell? ⟨bs, 6, none⟩ = some (.int .u32 (q6 : Int)) := HS2.out.cell 6 (by rw [S8.list_len]; omega)
  have c7 : w2.cell? ⟨bs, 7, none⟩ = some (.int .u32 (q7 : Int)) := HS2.out.cell 7 (by rw [S8.list_len]; omega)
  go_quiet (fail)
  clear c0 c1 c2 c3 c4 c5 c6 c7
  go_wp2_with fail
  refine wp_ends (mix_loop1 HV HWl HWL (Lib.hid (HW.out.drawn nq)) (Lib.hid (show KAt (w2.drewN nq) from HK2.out)) _ (Lib.hid ?_))
  rintro p0 p1 p2 p3 p4 p5 p6 p7 w3 ⟨hr, hb3⟩
  intros
  have hok := rl_ok HV.out Wl 64
  rw [hr] at hok
  have HOK := Lib.hid hok
  have HR := Lib.hid hr
  have hb4 : Below w.heap.size w w3 := (drawn_below HB2.out nq).trans (hb3.mono HB2.out.size)
  have HS3 := Lib.hid ((HS2.out.drawn nq).below hb3)
  have HB3 := Lib.hid hb4
  clear hr hb3 hb4 hok HS2 HK2 HB2 HW HWl HWL
  go_wp2_with fail
  refine wp_ends (mix_loop2 (vv := ⟨p0, p1, p2, p3, p4, p5, p6, p7⟩) HV HOK HS3 _ (Lib.hid ?_))
  rintro w4 ⟨ho, hb4⟩
  intros
  have HO := Lib.hid (show Blk bs ts .u32 (block ⟨q0, q1, q2, q3, q4, q5, q6, q7⟩ (bAt bl)).list w4 by rw [HBL.out, HR.out]; exact ho)
  have HB4 := Lib.hid ((But.refl bs w).below HB3.out |>.trans hb4)
  clear ho hb4
  go_wp2_with fail
  exact bodyPost_end (results_none rfl _ _ _) rfl ⟨rfl, HO.out, HB4.out⟩
end Go.Proofs.YtpfhlhcnmeodbaaGreatDoor
namespace Go.Proofs.YtpfhlhcnmeodbaaGreatDoor
open Go.RowKit
set_option maxHeartbeats 4000000 in
set_option maxRecDepth 100000 in
theorem fin_loop {bs bb n N : Nat} {t : TypeId} {l : List Nat} {w : World}
    {ca1 ca3 ca4 ca5 ub7 ca8 ca9 ca10 ca11 ca12 ca13 ca14 ca15 ca16 ca17 ca18 ca19 ca20 ub22 ub23 ub24 ub25 ub26 ub27 ub28 ub29 ub30 ub31 ub32 ub33
    ca34 ca35 : Value}
    (hn : 8 * n = N) (hN : N < 18446744073709551616) (HLN : Hid (l.length = 64)) (HC : Hid (Blk bb t .u8 l w))
    (R : Act → World → Prop)
    (hexit : Hid (∀  (w1 : World), Blk bb t .u8 (fillL l N 8) w1 ∧ But bb w w1 → ∀ {vb7 vb21 vb22 vb23 vb24 vb25 vb26 vb27 vb28 vb29 vb30 vb31 vb32 vb33 : Value},
      R ⟨List.toArray (.pointer (some ⟨bs, 0, none⟩) :: ca1 :: .int .u64 (n : Int) :: ca3 :: ca4 :: ca5 :: .pointer (some ⟨bb, 0, none⟩) :: vb7 :: ca8 :: ca9 :: ca10 :: ca11 :: ca12 :: ca13 :: ca14 :: ca15 :: ca16 :: ca17 :: ca18 :: ca19 :: ca20 ::
      vb21 :: vb22 :: vb23 :: vb24 :: vb25 :: vb26 :: vb27 :: vb28 :: vb29 :: vb30 :: vb31 :: vb32 :: vb33 :: ca34 :: ca35 :: []), []⟩ w1)) :
    Code.wp Tryz.prog (Code.loop (loopAt Tryz.f111 0)) (Ends 0 R) ⟨List.toArray (.pointer (some ⟨bs, 0, none⟩) :: ca1 :: .int .u64 (n : Int) :: ca3 :: ca4 :: ca5 :: .pointer (some ⟨bb, 0, none⟩) :: ub7 :: ca8 :: ca9 :: ca10 :: ca11 :: ca12 :: ca13 :: ca14 :: ca15 :: ca16 :: ca17 :: ca18 :: ca19 :: ca20 ::
      .int .i64 0 :: ub22 :: ub23 :: ub24 :: ub25 :: ub26 :: ub27 :: ub28 :: ub29 :: ub30 :: ub31 :: ub32 :: ub33 :: ca34 :: ca35 :: []), []⟩ w := by
  conv => arg 2; arg 1; whnf
  have HNN := Lib.hid hn
  have hn2 : (8 : Int) * (n : Int) = (N : Int) := by omega
  have hn3 : IntKind.u64.wrap (N : Int) = (N : Int) := by rw [IntKind.wrap_u64]; omega
  clear hn
  go_loopw [21] (fun i wq => ∃ k : Nat, k ≤ 8 ∧ i = .int .i64 k ∧ Blk bb t .u8 (fillL l N k) wq ∧ But bb w wq) (fun i _ => 8 - (intOf i).toNat)
  case atStart => exact ⟨0, by omega, rfl, HC.out, But.refl _ _⟩
  case round =>
    clear HC
    obtain ⟨k, hk, rfl, ho, hb2⟩ := hrel
    have HC := Lib.hid ho
    have HB := Lib.hid hb2
    clear ho hb2
    by_cases hlk : k < 8
    · have hlen := fillL_len l N k
      rw [HLN.out] at hlen
      obtain ⟨j, hj⟩ : ∃ j, j = 63 - k := ⟨_, rfl⟩
      have c1 := HC.out.cell j (by omega)
      have hf := HC.out.frozen j
      have HS := Lib.hid (HC.out.set j (N / 2 ^ (8 * k) % 256))
      have HA := Lib.hid (show fillL l N (k + 1) = (fillL l N k).set (63 - k) (N / 2 ^ (8 * k) % 256) from rfl)
      rw [← hj] at HA
      generalize (fillL l N k).getD j 0 = x at c1
      have d1 : (63 : Int) - (k : Int) = (j : Int) := by omega
      have d2 : IntKind.i64.wrap (j : Int) = (j : Int) := by rw [IntKind.wrap_i64]; omega
      have b1 : (j : Int) < 64 := by omega
      clear hlen hj
      go_wp2_with fail
      have hv : ((N / 2 ^ (8 * k) % 256 : Nat) : Int) = (N : Int) / 2 ^ (8 * k) % 256 := by simp
      exact ⟨⟨k + 1, by omega, by go_num, by
        rw [HA.out]
        have h := HS.out
        rw [hv] at h
        exact h, HB.out.setCell _ _⟩, by simp [intOf]; omega⟩
    · obtain rfl : k = 8 := by omega
      rw [show ((8 : Nat) : Int) = 8 from rfl]
      go_wp2_with fail
      exact ends_exit (hexit.out _ ⟨HC.out, HB.out⟩)
set_option maxHeartbeats 4000000 in
set_option maxRecDepth 100000 in
theorem fin_short (bs : Nat) (ts : TypeId) (v : S8) (r : List UInt8) (n N : Nat) (w : World) (hv : v.Ok) (hr : r.length ≤ 55) (hn : 8 * n = N) (hN : N < 18446744073709551616)
    (hs : Blk bs ts .u32 v.list w) (hk : KAt w) :
    Calls Tryz.prog 111 #[.pointer (some ⟨bs, 0, none⟩), .string ⟨r.toArray⟩, .int .u64 n] w fun e w' =>
      e = .returned (.tuple #[]) ∧ Blk bs ts .u32 (block v (bAt (fillL (tailL r) N 8))).list w' ∧ But bs w w' := by
  have HV := Lib.hid hv
  have HS := Lib.hid hs
  have HK := Lib.hid hk
  have HN := Lib.hid hn
  have hlt := hs.lt
  have hG := hk.lt
  clear hv hs hk hn
  go_enter Tryz.func111, Tryz.ntmps111
  go_upto_region 1 with (fail)
  change Code.wp _ _ _ _ (w.alloc (.cells (nums .u8 (List.replicate 64 0)).toArray 153))
  obtain ⟨w1, hw1⟩ : ∃ x, x = w.alloc (.cells (nums .u8 (List.replicate 64 0)).toArray 153) := ⟨_, rfl⟩
  rw [← hw1]
  have hb : Below w.heap.size w w1 := by rw [hw1]; exact (Below.refl _ _).alloc (Nat.le_refl _) _
  have HC := Lib.hid (show Blk w.heap.size 153 .u8 (List.replicate 64 0) w1 by rw [hw1]; exact heap_alloc_new w _)
  have HS1 := Lib.hid (HS.out.below hb)
  have HK1 := Lib.hid (HK.out.below hb)
  have HB1 := Lib.hid ((But.refl bs w).below hb)
  clear hw1 hb HS HK
  go_wp2_with (refine wpList_copy_bytes rfl _ _ 97 9 rfl 5 Tryz.underlying97 (by kernel_rfl) w.heap.size 64 64 r (List.replicate 64 0) 153 rfl rfl rfl HC.out ?_)
  intro w2 hc hb
  have hc2 : Blk w.heap.size 153 .u8 (byteNs (r.take 64) ++ (List.replicate 64 0).drop r.length) w2 := hc.out
  have hlen : (byteNs (r.take 64) ++ (List.replicate 64 0).drop r.length).length = 64 := by simp [byteNs_len]; omega
  have c1 := hc2.cell r.length (by rw [hlen]; omega)
  have hf := hc2.frozen r.length
  have HC3 := Lib.hid (show Blk w.heap.size 153 .u8 (tailL r) (w2.setCell ⟨w.heap.size, r.length, none⟩ (.int .u8 ((128 : Nat) : Int))) from hc2.set r.length 128)
  generalize (byteNs (r.take 64) ++ (List.replicate 64 0).drop r.length).getD r.length 0 = y at c1
  have HS2 := Lib.hid (HS1.out.but hb.out (by omega))
  have HK2 := Lib.hid (HK1.out.but hb.out (by omega))
  have HB2 := Lib.hid (HB1.out.new hb.out (Nat.le_refl _))
  clear hc hc2 HC HS1 HK1 HB1 hb hlen
  go_wp2_with fail
  obtain ⟨w3, hw3⟩ : ∃ x, x = w2.setCell ⟨w.heap.size, r.length, none⟩ (.int .u8 128) := ⟨_, rfl⟩
  rw [← hw3]
  have hb3 : But w.heap.size w2 w3 := by rw [hw3]; exact (But.refl _ _).setCell _ _
  have HC := Lib.hid (show Blk w.heap.size 153 .u8 (tailL r) w3 by rw [hw3]; exact HC3.out)
  have HS3 := Lib.hid (HS2.out.but hb3 (by omega))
  have HK3 := Lib.hid (HK2.out.but hb3 (by omega))
  have HB3 := Lib.hid (HB2.out.new hb3 (Nat.le_refl _))
  clear hw3 hb3 HS2 HK2 HB2 HC3 c1 hf
  refine wp_ends (fin_loop HN.out hN (Lib.hid (tailL_len (by omega))) HC _ (Lib.hid ?_))
  rintro w4 ⟨ho, hb⟩
  intros
  have HC4 := Lib.hid ho
  have HS4 := Lib.hid (HS3.out.but hb (by omega))
  have HK4 := Lib.hid (HK3.out.but hb (by omega))
  have HB4 := Lib.hid (HB3.out.new hb (Nat.le_refl _))
  clear ho hb HC HS3 HK3 HB3
  go_wp2_with fail
  refine (mix_any bs w.heap.size ts 153 v _ w4 HV.out (by rw [fillL_len, tailL_len (by omega)]) (fillL_lt (tailL_lt r) N 8) HS4.out HC4.out HK4.out).mono ?_
  rintro e w5 ⟨rfl, hs5, hb5⟩
  have HS5 := Lib.hid hs5
  have HB5 := Lib.hid (HB4.out.trans hb5)
  clear hs5 hb5 HS4 HK4 HB4 HC4
  go_wp2_with fail
  exact bodyPost_end (results_none rfl _ _ _) rfl ⟨rfl, HS5.out, HB5.out⟩
set_option maxHeartbeats 4000000 in
set_option maxRecDepth 100000 in
theorem fin_long (bs : Nat) (ts : TypeId) (v : S8) (r : List UInt8) (n N : Nat) (w : World) (hv : v.Ok) (hr : 56 ≤ r.length) (hr2 : r.length ≤ 63) (hn : 8 * n = N) (hN : N < 18446744073709551616)
    (hs : Blk bs ts .u32 v.list w) (hk : KAt w) (hGb : 0 ≠ bs) :
    Calls Tryz.prog 111 #[.pointer (some ⟨bs, 0, none⟩), .string ⟨r.toArray⟩, .int .u64 n] w fun e w' =>
      e = .returned (.tuple #[]) ∧ Blk bs ts .u32 (block (block v (bAt (tailL r))) (bAt (fillL (List.replicate 64 0) N 8))).list w' ∧ But bs w w' := by
  have HV := Lib.hid hv
  have HS := Lib.hid hs
  have HK := Lib.hid hk
  have HN := Lib.hid hn
  have hlt := hs.lt
  have hG := hk.lt
  clear hv hs hk hn
  go_enter Tryz.func111, Tryz.ntmps111
  go_upto_region 1 with (fail)
  change Code.wp _ _ _ _ (w.alloc (.cells (nums .u8 (List.replicate 64 0)).toArray 153))
  obtain ⟨w1, hw1⟩ : ∃ x, x = w.alloc (.cells (nums .u8 (List.replicate 64 0)).toArray 153) := ⟨_, rfl⟩
  rw [← hw1]
  have hb : Below w.heap.size w w1 := by rw [hw1]; exact (Below.refl _ _).alloc (Nat.le_refl _) _
  have HC := Lib.hid (show Blk w.heap.size 153 .u8 (List.replicate 64 0) w1 by rw [hw1]; exact heap_alloc_new w _)
  have HS1 := Lib.hid (HS.out.below hb)
  have HK1 := Lib.hid (HK.out.below hb)
  have HB1 := Lib.hid ((But.refl bs w).below hb)
  clear hw1 hb HS HK
  go_wp2_with (refine wpList_copy_bytes rfl _ _ 97 9 rfl 5 Tryz.underlying97 (by kernel_rfl) w.heap.size 64 64 r (List.replicate 64 0) 153 rfl rfl rfl HC.out ?_)
  intro w2 hc hb
  have hc2 : Blk w.heap.size 153 .u8 (byteNs (r.take 64) ++ (List.replicate 64 0).drop r.length) w2 := hc.out
  have hlen : (byteNs (r.take 64) ++ (List.replicate 64 0).drop r.length).length = 64 := by simp [byteNs_len]; omega
  have c1 := hc2.cell r.length (by rw [hlen]; omega)
  have hf := hc2.frozen r.length
  have HC3 := Lib.hid (show Blk w.heap.size 153 .u8 (tailL r) (w2.setCell ⟨w.heap.size, r.length, none⟩ (.int .u8 ((128 : Nat) : Int))) from hc2.set r.length 128)
  generalize (byteNs (r.take 64) ++ (List.replicate 64 0).drop r.length).getD r.length 0 = y at c1
  have HS2 := Lib.hid (HS1.out.but hb.out (by omega))
  have HK2 := Lib.hid (HK1.out.but hb.out (by omega))
  have HB2 := Lib.hid (HB1.out.new hb.out (Nat.le_refl _))
  clear hc hc2 HC HS1 HK1 HB1 hb hlen
  go_wp2_with fail
  obtain ⟨w3, hw3⟩ : ∃ x, x = w2.setCell ⟨w.heap.size, r.length, none⟩ (.int .u8 128) := ⟨_, rfl⟩
  rw [← hw3]
  have hb3 : But w.heap.size w2 w3 := by rw [hw3]; exact (But.refl _ _).setCell _ _
  have HC := Lib.hid (show Blk w.heap.size 153 .u8 (tailL r) w3 by rw [hw3]; exact HC3.out)
  have HS3 := Lib.hid (HS2.out.but hb3 (by omega))
  have HK3 := Lib.hid (HK2.out.but hb3 (by omega))
  have HB3 := Lib.hid (HB2.out.new hb3 (Nat.le_refl _))
  clear hw3 hb3 HS2 HK2 HB2 HC3 c1 hf
  refine (mix_any bs w.heap.size ts 153 v _ w3 HV.out (tailL_len (by omega)) (tailL_lt r) HS3.out HC.out HK3.out).mono ?_
  rintro e w4 ⟨rfl, hs4, hb4⟩
  have HC4 := Lib.hid (HC.out.but hb4 (by omega))
  have HK4 := Lib.hid (HK3.out.but hb4 hGb)
  have HS4 := Lib.hid hs4
  have HB4 := Lib.hid (HB3.out.trans hb4)
  clear hs4 hb4 HC HS3 HK3 HB3
  go_wp2_with (refine wpList_store_nums rfl 153 _ _ rfl rfl w.heap.size .u8 _ (List.replicate 64 0) 153 rfl rfl HC4.out (by rw [List.length_replicate]; exact Tryz.infoB) (by rw [tailL_len (by omega), List.length_replicate]) ?_)
  intro w5 hc hb
  have HC5 := Lib.hid (show Blk w.heap.size 153 .u8 (List.replicate 64 0) w5 from hc.out)
  have HS5 := Lib.hid (HS4.out.but hb.out (by omega))
  have HK5 := Lib.hid (HK4.out.but hb.out (by omega))
  have HB5 := Lib.hid (HB4.out.new hb.out (Nat.le_refl _))
  clear hc hb HC4 HS4 HK4 HB4
  go_wp2_with fail
  refine wp_ends (fin_loop HN.out hN (Lib.hid (List.length_replicate)) HC5 _ (Lib.hid ?_))
  rintro w6 ⟨ho, hb⟩
  intros
  have HC6 := Lib.hid ho
  have HS6 := Lib.hid (HS5.out.but hb (by omega))
  have HK6 := Lib.hid (HK5.out.but hb (by omega))
  have HB6 := Lib.hid (HB5.out.new hb (Nat.le_refl _))
  clear ho hb HC5 HS5 HK5 HB5
  go_wp2_with fail
  refine (mix_any bs w.heap.size ts 153 (block v (bAt (tailL r))) _ w6 (block_ok _ _) (by rw [fillL_len, List.length_replicate]) (fillL_lt (by intro x hx; have := List.eq_of_mem_replicate hx; omega) N 8) HS6.out HC6.out HK6.out).mono ?_
  rintro e w7 ⟨rfl, hs7, hb7⟩
  have HS7 := Lib.hid hs7
  have HB7 := Lib.hid (HB6.out.trans hb7)
  clear hs7 hb7 HS6 HK6 HB6 HC6
  go_wp2_with fail
  exact bodyPost_end (results_none rfl _ _ _) rfl ⟨rfl, HS7.out, HB7.out⟩
end Go.Proofs.YtpfhlhcnmeodbaaGreatDoor
namespace Go.Proofs.YtpfhlhcnmeodbaaGreatDoor
open Go.RowKit
theorem l8_at (N i q : Nat) (h : q < i) : (l8 N i).getD q 0 = N * 256 ^ q % 18446744073709551616 / 72057594037927936 := by
  induction i with
  | zero => omega
  | succ i ih =>
    rw [l8, List.getD_eq_getElem?_getD]
    by_cases hq : q < i
    · rw [List.getElem?_append_left (by rw [l8_len]; exact hq), ← List.getD_eq_getElem?_getD, ih hq]
    · obtain rfl : q = i := by omega
      rw [List.getElem?_append_right (by rw [l8_len]; exact Nat.le_refl _), l8_len, Nat.sub_self]
      rfl
theorem l8_byte (N q : Nat) (hN : N < 18446744073709551616) (hq : q < 8) : N * 256 ^ q % 18446744073709551616 / 72057594037927936 = N / 2 ^ (8 * (7 - q)) % 256 := by
  match q, hq with
  | 0, _ => show N * 1 % _ / _ = N / 72057594037927936 % 256; omega
  | 1, _ => show N * 256 % _ / _ = N / 281474976710656 % 256; omega
  | 2, _ => show N * 65536 % _ / _ = N / 1099511627776 % 256; omega
  | 3, _ => show N * 16777216 % _ / _ = N / 4294967296 % 256; omega
  | 4, _ => show N * 4294967296 % _ / _ = N / 16777216 % 256; omega
  | 5, _ => show N * 1099511627776 % _ / _ = N / 65536 % 256; omega
  | 6, _ => show N * 281474976710656 % _ / _ = N / 256 % 256; omega
  | 7, _ => show N * 72057594037927936 % _ / _ = N / 1 % 256; omega
theorem padN_byte (s : List UInt8) (i : Nat) (h : i < s.length) : (padSh s).getD i 0 = (byteNs s).getD i 0 := by
  unfold padSh
  rw [List.append_assoc, List.append_assoc, List.getD_eq_getElem?_getD, List.getElem?_append_left (by rw [byteNs_len]; exact h), ← List.getD_eq_getElem?_getD]
theorem padN_mark (s : List UInt8) : (padSh s).getD s.length 0 = 128 := by
  unfold padSh
  rw [List.append_assoc, List.append_assoc, List.getD_eq_getElem?_getD, List.getElem?_append_right (by rw [byteNs_len]; exact Nat.le_refl _), byteNs_len, Nat.sub_self]
  rfl
theorem padN_zero (s : List UInt8) (i : Nat) (h : s.length < i) (h2 : i < s.length + 1 + zerosN s.length) : (padSh s).getD i 0 = 0 := by
  unfold padSh
  rw [List.append_assoc, List.getD_eq_getElem?_getD, List.getElem?_append_right (by simp [byteNs_len]; omega), List.getElem?_append_left (by simp [byteNs_len]; omega), List.getElem?_replicate]
  split <;> rfl
theorem padN_end (s : List UInt8) (q : Nat) (h : q < 8) : (padSh s).getD (s.length + 1 + zerosN s.length + q) 0 = s.length * 8 * 256 ^ q % 18446744073709551616 / 72057594037927936 := by
  unfold padSh
  rw [List.getD_eq_getElem?_getD, List.getElem?_append_right (by simp [byteNs_len]; omega), ← List.getD_eq_getElem?_getD]
  have e : (byteNs s ++ [128] ++ List.replicate (zerosN s.length) 0).length = s.length + 1 + zerosN s.length := by simp [byteNs_len]; omega
  rw [e, Nat.add_sub_cancel_left]
  exact l8_at _ _ _ h
theorem byteNs_drop (s : List UInt8) (n : Nat) : byteNs (s.drop n) = (byteNs s).drop n := by simp [byteNs]
theorem byteNs_take (s : List UInt8) (n : Nat) : byteNs (s.take n) = (byteNs s).take n := by simp [byteNs]
theorem getD_drop (l : List Nat) (n j : Nat) : (l.drop n).getD j 0 = l.getD (n + j) 0 := by simp [List.getD_eq_getElem?_getD]
theorem getD_take (l : List Nat) (n j : Nat) (h : j < n) : (l.take n).getD j 0 = l.getD j 0 := by simp [List.getD_eq_getElem?_getD, h]
theorem blocks_next (s : List UInt8) (m : Nat) (h : 64 * m + 64 ≤ s.length) : block (blocks (padSh s) m) (bAt (byteNs ((s.drop (64 * m)).take 64))) = blocks (padSh s) (m + 1) := by
  show _ = block (blocks (padSh s) m) (fun j => (padSh s).getD (64 * m + j) 0)
  refine block_congr _ fun j hj => ?_
  show (byteNs ((s.drop (64 * m)).take 64)).getD j 0 = _
  rw [byteNs_take, getD_take _ _ _ hj, byteNs_drop, getD_drop, padN_byte _ _ (by omega)]
theorem blocks_short (s : List UInt8) (m : Nat) (h : 64 * m ≤ s.length) (h2 : s.length ≤ 64 * m + 55) (hN : s.length * 8 < 18446744073709551616) :
    block (blocks (padSh s) m) (bAt (fillL (tailL (s.drop (64 * m))) (s.length * 8) 8)) = blocks (padSh s) ((padSh s).length / 64) := by
  have hz : zerosN s.length = 64 * m + 55 - s.length := by unfold zerosN; omega
  have hl : (padSh s).length / 64 = m + 1 := by rw [padSh_len]; omega
  rw [hl]
  show _ = block (blocks (padSh s) m) (fun j => (padSh s).getD (64 * m + j) 0)
  have hr : (s.drop (64 * m)).length = s.length - 64 * m := List.length_drop
  refine block_congr _ fun j hj => ?_
  show (fillL (tailL (s.drop (64 * m))) (s.length * 8) 8).getD j 0 = _
  rw [fillL_at _ _ _ _ (tailL_len (by omega)) hj (by omega)]
  by_cases h8 : 63 - j < 8
  · rw [if_pos h8]
    have e := padN_end s (j - 56) (by omega)
    rw [show s.length + 1 + zerosN s.length + (j - 56) = 64 * m + j by omega, l8_byte _ _ hN (by omega), show 7 - (j - 56) = 63 - j by omega] at e
    exact e.symm
  · rw [if_neg h8, tailL_at (by omega) j hj, hr]
    by_cases h1 : j < s.length - 64 * m
    · rw [if_pos h1, byteNs_drop, getD_drop, padN_byte _ _ (by omega)]
    · rw [if_neg h1]
      by_cases h3 : j = s.length - 64 * m
      · rw [if_pos h3, show 64 * m + j = s.length by omega, padN_mark]
      · rw [if_neg h3, padN_zero _ _ (by omega) (by omega)]
theorem blocks_long (s : List UInt8) (m : Nat) (h : 64 * m + 56 ≤ s.length) (h2 : s.length ≤ 64 * m + 63) (hN : s.length * 8 < 18446744073709551616) :
    block (block (blocks (padSh s) m) (bAt (tailL (s.drop (64 * m))))) (bAt (fillL (List.replicate 64 0) (s.length * 8) 8)) = blocks (padSh s) ((padSh s).length / 64) := by
  have hz : zerosN s.length = 64 * m + 119 - s.length := by unfold zerosN; omega
  have hl : (padSh s).length / 64 = m + 1 + 1 := by rw [padSh_len]; omega
  rw [hl]
  show _ = block (block (blocks (padSh s) m) (fun j => (padSh s).getD (64 * m + j) 0)) (fun j => (padSh s).getD (64 * (m + 1) + j) 0)
  have hr : (s.drop (64 * m)).length = s.length - 64 * m := List.length_drop
  have e1 : block (blocks (padSh s) m) (bAt (tailL (s.drop (64 * m)))) = block (blocks (padSh s) m) (fun j => (padSh s).getD (64 * m + j) 0) := by
    refine block_congr _ fun j hj => ?_
    show (tailL (s.drop (64 * m))).getD j 0 = _
    rw [tailL_at (by omega) j hj, hr]
    by_cases h1 : j < s.length - 64 * m
    · rw [if_pos h1, byteNs_drop, getD_drop, padN_byte _ _ (by omega)]
    · rw [if_neg h1]
      by_cases h3 : j = s.length - 64 * m
      · rw [if_pos h3, show 64 * m + j = s.length by omega, padN_mark]
      · rw [if_neg h3, padN_zero _ _ (by omega) (by omega)]
  rw [e1]
  refine block_congr _ fun j hj => ?_
  show (fillL (List.replicate 64 0) (s.length * 8) 8).getD j 0 = _
  rw [fillL_at _ _ _ _ (List.length_replicate) hj (by omega)]
  by_cases h8 : 63 - j < 8
  · rw [if_pos h8]
    have e := padN_end s (j - 56) (by omega)
    rw [show s.length + 1 + zerosN s.length + (j - 56) = 64 * (m + 1) + j by omega, l8_byte _ _ hN (by omega), show 7 - (j - 56) = 63 - j by omega] at e
    exact e.symm
  · rw [if_neg h8, padN_zero _ _ (by omega) (by omega), List.getD_eq_getElem?_getD, List.getElem?_replicate]
    split <;> rfl
end Go.Proofs.YtpfhlhcnmeodbaaGreatDoor
namespace Go.Proofs.YtpfhlhcnmeodbaaGreatDoor
open Go.RowKit
set_option maxRecDepth 100000 in
theorem start_any (w : World) :
    Calls Tryz.prog 109 #[] w fun e w' => e = .returned (.agg (nums .u32 H0.list).toArray) ∧ Below w.heap.size w w' := by
  have HZ := Lib.hid (show Blk w.heap.size 151 .u32 (List.replicate 8 0) (w.alloc (.cells (nums .u32 (List.replicate 8 0)).toArray 151)) from heap_alloc_new w _)
  have HB := Lib.hid ((Below.refl w.heap.size w).alloc (Nat.le_refl _) (.cells (nums .u32 (List.replicate 8 0)).toArray 151))
  go_enter Tryz.func109, Tryz.ntmps109
  go_wp2_with (refine wpList_store_nums rfl 151 _ _ rfl rfl w.heap.size .u32 _ H0.list 151 rfl rfl HZ.out (by exact Tryz.infoS) rfl ?_)
  intro w2 hc hb
  have HC := Lib.hid (show Blk w.heap.size 151 .u32 H0.list w2 from hc.out)
  have HB2 := Lib.hid (show Below w.heap.size w w2 from But.toBelow HB.out hb.out (Nat.le_refl _) HB.out.size)
  clear hc hb
  go_wp2_with fail
  exact bodyPost_ret (results_nums rfl _ _ w.heap.size .u32 _ 151 _ rfl HC.out Tryz.underlying151 rfl Tryz.infoS) rfl ⟨rfl, HB2.out⟩
set_option maxHeartbeats 4000000 in
set_option maxRecDepth 100000 in
theorem digest_any (bs : Nat) (ts : TypeId) (v : S8) (w : World) (hv : v.Ok) (hs : Blk bs ts .u32 v.list w) :
    Calls Tryz.prog 112 #[.pointer (some ⟨bs, 0, none⟩)] w fun e w' => e = .returned (.agg (nums .u8 (outN v.list)).toArray) ∧ Below w.heap.size w w' := by
  have HV := Lib.hid hv
  have HS := Lib.hid hs
  clear hv hs
  go_enter Tryz.func112, Tryz.ntmps112
  go_wp2_with fail
  go_loopw [8] (fun i wq => ∃ k : Nat, k ≤ 8 ∧ i = .int .i64 k ∧ Blk (w.heap.size + 1) 43 .u8 (outP v.list (4 * k)) wq ∧ Blk w.heap.size 43 .u8 (List.replicate 32 0) wq ∧ Below w.heap.size w wq) (fun i _ => 8 - (intOf i).toNat)
  case atStart =>
    refine ⟨0, by omega, rfl, ?_, ?_, ((Below.refl _ w).alloc (Nat.le_refl _) _).alloc (by simp) _⟩
    · have h := heap_alloc_new (w.alloc (.cells (nums .u8 (List.replicate 32 0)).toArray 43)) (.cells (nums .u8 (List.replicate 32 0)).toArray 43)
      rw [World.size_alloc] at h
      exact h
    · exact Blk.alloc (show Blk w.heap.size 43 .u8 (List.replicate 32 0) (w.alloc (.cells (nums .u8 (List.replicate 32 0)).toArray 43)) from heap_alloc_new w _) _
  case round =>
    obtain ⟨k, hk, rfl, hw, hr, hb⟩ := hrel
    have HW := Lib.hid hw
    have HR := Lib.hid hr
    have HB := Lib.hid hb
    clear hw hr hb
    by_cases hlk : k < 8
    · have c := (HS.out.below HB.out).cell k hlk
      have hx := getD_lt HV.out.lt (by decide) k
      have HX := Lib.hid (show v.list.getD k 0 = v.list.getD k 0 from rfl)
      obtain ⟨x, hxe⟩ : ∃ x, x = v.list.getD k 0 := ⟨_, rfl⟩
      rw [← hxe] at c hx
      have HXE := Lib.hid hxe
      have bk : (k : Int) < 8 := by omega
      clear hxe HX
      go_wp2_with fail
      go_quiet (fail)
      clear c
      go_wp2_with fail
      go_loopw [14] (fun i wq => ∃ j : Nat, j ≤ 4 ∧ i = .int .i64 j ∧ Blk (w.heap.size + 1) 43 .u8 (outP v.list (4 * k + j)) wq ∧ Blk w.heap.size 43 .u8 (List.replicate 32 0) wq ∧ Below w.heap.size w wq) (fun i _ => 4 - (intOf i).toNat)
      case atStart => exact ⟨0, by omega, rfl, HW.out, HR.out, drawn_below HB.out nq⟩
      case round =>
        clear HW HR HB
        obtain ⟨j, hj, rfl, hw, hr, hb⟩ := hrel
        have HW := Lib.hid hw
        have HR := Lib.hid hr
        have HB := Lib.hid hb
        clear hw hr hb
        by_cases hlj : j < 4
        · obtain ⟨i, hi⟩ : ∃ i, i = 4 * k + j := ⟨_, rfl⟩
          have hil : i < 32 := by omega
          have hlen := outP_len v.list i (by omega)
          rw [← hi] at HW
          have c1 := HW.out.cell i (by omega)
          have hf := HW.out.frozen i
          have HS2 := Lib.hid (HW.out.set i (outB v.list i))
          rw [outP_set _ _ hil] at HS2
          have HO := Lib.hid (show outB v.list i = x / 2 ^ (24 - 8 * j) % 256 by rw [HXE.out]; unfold outB; rw [show i / 4 = k by omega, show i % 4 = j by omega])
          have HI := Lib.hid (show i + 1 = 4 * k + (j + 1) by omega)
          generalize (outP v.list i).getD i 0 = y at c1
          have d1 : 4 * (k : Int) + (j : Int) = (i : Int) := by omega
          have d2 : IntKind.i64.wrap (i : Int) = (i : Int) := by rw [IntKind.wrap_i64]; omega
          have b1 : (i : Int) < 32 := by omega
          clear hlen hi
          go_wp2_with fail
          have hv : ((outB v.list i : Nat) : Int) = (x : Int) / 2 ^ (24 - 8 * j) % 256 := by
            rw [HO.out]
            simp
          rw [hv] at HS2
          exact ⟨⟨j + 1, by omega, by go_num, by rw [← HI.out]; exact HS2.out, HR.out.but ((But.refl _ _).setCell _ _) (by omega), HB.out.setCell (by simp) _⟩, by simp [intOf]; omega⟩
        · obtain rfl : j = 4 := by omega
          rw [show ((4 : Nat) : Int) = 4 from rfl]
          have HI := Lib.hid (show 4 * k + 4 = 4 * (k + 1) by omega)
          go_wp2_with fail
          exact ⟨⟨k + 1, by omega, by go_num, by rw [← HI.out]; exact HW.out, HR.out, HB.out⟩, by simp [intOf]; omega⟩
    · obtain rfl : k = 8 := by omega
      rw [show ((8 : Nat) : Int) = 8 from rfl]
      rw [show 4 * 8 = 32 from rfl, outP_full] at HW
      have HI := Lib.hid (show (Tryz.prog.info? 43).map (·.size) = some (outN v.list).length by rw [show (outN v.list).length = 32 by simp [outN]]; exact Tryz.infoId)
      have HL := Lib.hid (show (List.replicate 32 0).length = (outN v.list).length by simp [outN])
      go_wp2_with (first | (refine wpList_load_nums rfl 43 _ rfl (w.heap.size + 1) .u8 _ 43 _ rfl HW.out Tryz.underlying43 rfl HI.out ?_) | (refine wpList_store_nums rfl 43 _ _ rfl rfl w.heap.size .u8 _ (outN v.list) 43 rfl rfl HR.out HI.out HL.out ?_))
      intro w2 hc hb
      have HC := Lib.hid (show Blk w.heap.size 43 .u8 (outN v.list) w2 from hc.out)
      have HB2 := Lib.hid (show Below w.heap.size w w2 from But.toBelow HB.out hb.out (Nat.le_refl _) HB.out.size)
      clear hc hb
      go_wp2_with fail
      exact bodyPost_ret (results_nums rfl _ _ w.heap.size .u8 _ 43 _ rfl HC.out Tryz.underlying43 rfl HI.out) rfl ⟨rfl, HB2.out⟩
end Go.Proofs.YtpfhlhcnmeodbaaGreatDoor
namespace Go.Proofs.YtpfhlhcnmeodbaaGreatDoor
open Go.RowKit
def strN : Value → Nat
  | .string b => b.size
  | _ => 0
set_option maxHeartbeats 4000000 in
set_option maxRecDepth 100000 in
theorem dev_of (s : List UInt8) (w : World) (hm : s.length ≤ 140737488350000) (hk : KAt w) :
    Calls Tryz.prog 99 #[.string ⟨s.toArray⟩] w fun e w' => e = .returned (.agg (nums .u8 (shaN s)).toArray) ∧ Below w.heap.size w w' := by
  have HK := Lib.hid hk
  have hG := hk.lt
  clear hk
  go_enter Tryz.func99, Tryz.ntmps99
  go_upto_region 1 with (fail)
  change Code.wp _ _ _ _ (w.alloc (.cells (nums .u8 (List.replicate 32 0)).toArray 43))
  obtain ⟨wa, hwa⟩ : ∃ x, x = w.alloc (.cells (nums .u8 (List.replicate 32 0)).toArray 43) := ⟨_, rfl⟩
  rw [← hwa]
  have hb : Below w.heap.size w wa := by rw [hwa]; exact (Below.refl _ _).alloc (Nat.le_refl _) _
  have hr : Blk w.heap.size 43 .u8 (List.replicate 32 0) wa := by rw [hwa]; exact heap_alloc_new w _
  have HR := Lib.hid hr
  have HKa := Lib.hid (HK.out.below hb)
  have HB := Lib.hid hb
  clear hwa hb hr HK
  go_wp2_with fail
  refine (start_any _).mono ?_
  rintro e w1 ⟨rfl, hb⟩
  have HR1 := Lib.hid (HR.out.below hb)
  have HK1 := Lib.hid (HKa.out.below hb)
  have HB1 := Lib.hid (HB.out.trans (hb.mono HB.out.size))
  have HZ := Lib.hid (show Blk w1.heap.size 151 .u32 (List.replicate 8 0) (w1.alloc (.cells (nums .u32 (List.replicate 8 0)).toArray 151)) from heap_alloc_new w1 _)
  clear hb HR HKa HB
  go_wp2_with (refine wpList_store_nums rfl 151 _ _ rfl rfl w1.heap.size .u32 _ H0.list 151 rfl rfl HZ.out (by exact Tryz.infoS) rfl ?_)
  intro w2 hc hb
  have hb2 : But w1.heap.size w1 w2 := (But.refl w1.heap.size w1).alloc (.cells (nums .u32 (List.replicate 8 0)).toArray 151) |>.trans hb.out
  have hR1 := HR1.out.lt
  have hK1 := HK1.out.lt
  have HS2 := Lib.hid (show Blk w1.heap.size 151 .u32 H0.list w2 from hc.out)
  have HR2 := Lib.hid (HR1.out.but hb2 (by omega))
  have HK2 := Lib.hid (HK1.out.but hb2 (by omega))
  have HB2 := Lib.hid (show Below w.heap.size w w2 from But.toBelow HB1.out hb2 HB1.out.size HB1.out.size)
  clear hc hb hb2 HZ HR1 HK1
  go_upto_region 3 with (fail)
  change Code.wp _ _ _ _ (w2.alloc (.cells (nums .u8 (List.replicate 64 0)).toArray 153))
  obtain ⟨w3, hw3⟩ : ∃ x, x = w2.alloc (.cells (nums .u8 (List.replicate 64 0)).toArray 153) := ⟨_, rfl⟩
  rw [← hw3]
  have hb : Below w2.heap.size w2 w3 := by rw [hw3]; exact (Below.refl _ _).alloc (Nat.le_refl _) _
  have HC3 := Lib.hid (show Blk w2.heap.size 153 .u8 (List.replicate 64 0) w3 by rw [hw3]; exact heap_alloc_new w2 _)
  have hS2 := HS2.out.lt
  have HS3 := Lib.hid (HS2.out.below hb)
  have HR3 := Lib.hid (HR2.out.below hb)
  have HK3 := Lib.hid (HK2.out.below hb)
  have hB1 := HB1.out.size
  have HB3 := Lib.hid (HB2.out.trans (hb.mono HB2.out.size))
  clear hw3 hb HS2 HR2 HK2 HB1
  obtain ⟨bs, hbs⟩ : ∃ x, x = w1.heap.size := ⟨_, rfl⟩
  obtain ⟨bb, hbb⟩ : ∃ x, x = w2.heap.size := ⟨_, rfl⟩
  rw [← hbs] at HS3 hR1 hK1 hB1 hS2 ⊢
  rw [← hbb] at HC3 hS2 ⊢
  clear hbs hbb HB2 hB1
  go_wp2_with fail
  go_loopw [5] (fun v wq => ∃ m : Nat, 64 * m ≤ s.length ∧ v = .string ⟨(s.drop (64 * m)).toArray⟩ ∧ Blk bs 151 .u32 (blocks (padSh s) m).list wq ∧ (∃ l, l.length = 64 ∧ Blk bb 153 .u8 l wq) ∧ Blk w.heap.size 43 .u8 (List.replicate 32 0) wq ∧ KAt wq ∧ Below w.heap.size w wq) (fun v _ => strN v)
  case atStart => exact ⟨0, by omega, rfl, HS3.out, ⟨_, List.length_replicate, HC3.out⟩, HR3.out, HK3.out, HB3.out⟩
  case round =>
    clear HS3 HC3 HR3 HK3 HB3
    obtain ⟨m, hm64, rfl, hs, ⟨l, hl, hc⟩, hr, hk, hb⟩ := hrel
    have HS := Lib.hid hs
    have HC := Lib.hid hc
    have HR := Lib.hid hr
    have HK := Lib.hid hk
    have HB := Lib.hid hb
    have HLL := Lib.hid hl
    clear hs hc hr hk hb hl
    obtain ⟨r, hr⟩ : ∃ r, r = s.drop (64 * m) := ⟨_, rfl⟩
    rw [← hr]
    have hrl : r.length = s.length - 64 * m := by rw [hr]; exact List.length_drop
    have HRE := Lib.hid hr
    clear hr
    by_cases hlt : 64 * m + 64 ≤ s.length
    · have hl64 : 64 ≤ r.length := by omega
      have hx := extract_tail r 64
      have HX := Lib.hid (show r.drop 64 = s.drop (64 * (m + 1)) by rw [HRE.out, List.drop_drop]; rfl)
      have HXL := Lib.hid (show (r.drop 64).length = r.length - 64 from List.length_drop)
      clear hrl
      go_wp2_with (refine wpList_copy_bytes rfl _ _ 97 9 rfl 5 Tryz.underlying97 (by kernel_rfl) bb 64 64 r l 153 HLL.out.symm rfl rfl HC.out ?_)
      intro w5 hc hb
      have HC5 := Lib.hid (show Blk bb 153 .u8 (byteNs (r.take 64)) w5 by
        have h := hc.out
        rw [HLL.out, List.drop_of_length_le (by rw [HLL.out]; exact hl64), List.append_nil] at h
        exact h)
      have HS5 := Lib.hid (HS.out.but hb.out (by omega))
      have HR5 := Lib.hid (HR.out.but hb.out (by omega))
      have HK5 := Lib.hid (HK.out.but hb.out (by omega))
      have hbsz := HB.out.size
      have HB5 := Lib.hid (show Below w.heap.size w w5 from But.toBelow HB.out hb.out (by omega) hbsz)
      clear hc hb HS HC HR HK HB
      go_wp2_with fail
      refine (mix_any bs bb 151 153 _ _ w5 (blocks_ok _ _) (by rw [byteNs_len, List.length_take]; omega) (byteNs_lt _) HS5.out HC5.out HK5.out).mono ?_
      rintro e w6 ⟨rfl, hs6, hb6⟩
      have HS6 := Lib.hid (show Blk bs 151 .u32 (blocks (padSh s) (m + 1)).list w6 by rw [← blocks_next s m hlt, ← HRE.out]; exact hs6)
      have HC6 := Lib.hid (HC5.out.but hb6 (by omega))
      have HR6 := Lib.hid (HR5.out.but hb6 (by omega))
      have HK6 := Lib.hid (HK5.out.but hb6 (by omega))
      have HB6 := Lib.hid (show Below w.heap.size w w6 from But.toBelow HB5.out hb6 (by omega) HB5.out.size)
      have HC6L := Lib.hid (show (byteNs (r.take 64)).length = 64 by rw [byteNs_len, List.length_take]; omega)
      clear hs6 hb6 HS5 HC5 HR5 HK5 HB5
      go_wp2_with fail
      exact ⟨⟨m + 1, by omega, by rw [HX.out], HS6.out, ⟨_, HC6L.out, HC6.out⟩, HR6.out, HK6.out, HB6.out⟩, by have := HXL.out; simp [strN, ByteArray.size] at this ⊢; omega⟩
    · have hr63 : r.length ≤ 63 := by omega
      have HF := Lib.hid (show outN (blocks (padSh s) ((padSh s).length / 64)).list = shaN s from rfl)
      have hfin : Calls Tryz.prog 111 #[.pointer (some ⟨bs, 0, none⟩), .string ⟨r.toArray⟩, .int .u64 s.length] wr fun e w' =>
          e = .returned (.tuple #[]) ∧ Blk bs 151 .u32 (blocks (padSh s) ((padSh s).length / 64)).list w' ∧ But bs wr w' := by
        by_cases h55 : r.length ≤ 55
        · have h := fin_short bs 151 _ r s.length (s.length * 8) wr (blocks_ok (padSh s) m) h55 (by omega) (by omega) HS.out HK.out
          rw [HRE.out, blocks_short s m hm64 (by omega) (by omega), ← HRE.out] at h
          exact h
        · have h := fin_long bs 151 _ r s.length (s.length * 8) wr (blocks_ok (padSh s) m) (by omega) hr63 (by omega) (by omega) HS.out HK.out (by omega)
          rw [HRE.out, blocks_long s m (by omega) (by omega) (by omega), ← HRE.out] at h
          exact h
      have HFIN := Lib.hid hfin
      clear hfin hrl
      go_wp2_with fail
      refine HFIN.out.mono ?_
      rintro e w5 ⟨rfl, hs5, hb5⟩
      have HS5 := Lib.hid hs5
      have HR5 := Lib.hid (HR.out.but hb5 (by omega))
      have HB5 := Lib.hid (show Below w.heap.size w w5 from But.toBelow HB.out hb5 (by omega) HB.out.size)
      clear hs5 hb5 HS HR HB HC HK HFIN
      go_wp2_with fail
      refine (digest_any bs 151 _ w5 (blocks_ok _ _) HS5.out).mono ?_
      rintro e w6 ⟨rfl, hb6⟩
      rw [HF.out]
      have HR6 := Lib.hid (HR5.out.below hb6)
      have HB6 := Lib.hid (HB5.out.trans (hb6.mono HB5.out.size))
      have HI := Lib.hid (show (Tryz.prog.info? 43).map (·.size) = some (shaN s).length by rw [shaN_len]; exact Tryz.infoId)
      have HL := Lib.hid (show (List.replicate 32 0).length = (shaN s).length by rw [shaN_len, List.length_replicate])
      clear hb6 HR5 HB5 HS5
      go_wp2_with (refine wpList_store_nums rfl 43 _ _ rfl rfl w.heap.size .u8 _ (shaN s) 43 rfl rfl HR6.out HI.out HL.out ?_)
      intro w7 hc hb
      have HC7 := Lib.hid (show Blk w.heap.size 43 .u8 (shaN s) w7 from hc.out)
      have HB7 := Lib.hid (show Below w.heap.size w w7 from But.toBelow HB6.out hb.out (Nat.le_refl _) HB6.out.size)
      clear hc hb
      go_wp2_with fail
      exact bodyPost_ret (results_nums rfl _ _ w.heap.size .u8 _ 43 _ rfl HC7.out Tryz.underlying43 rfl HI.out) rfl ⟨rfl, HB7.out⟩
end Go.Proofs.YtpfhlhcnmeodbaaGreatDoor
namespace Go.Proofs.YtpfhlhcnmeodbaaGreatDoor
open Go.RowKit
set_option maxHeartbeats 4000000 in
set_option maxRecDepth 100000 in
theorem of_loop1 {s : List UInt8} {v0 : Value} {wb w : World}
    {ca0 ca1 ca2 ca3 ca4 ca6 ca7 ca8 ca9 ca10 ca11 ca12 ca13 ca14 ca15 ca16 ca17 ca18 ca19 ca20 ca21 ca22 ca23 ca24 ca25 ca26 ca27 ca28 ca29 ub30
    ub31 ub32 ub33 ub34 ub35 ub36 ca37 ca38 ca39 ca40 ca41 ca42 ca43 ca44 ca45 ca46 ca47 ca48 ca49 ca50 ca51 ca52 ca53 ca54 ca55 ca56 ca57 ca58 ca59 ca60
    ca61 ca62 ca63 ca64 ca65 ca66 ca67 ca68 ca69 ca70 ca71 ca72 ca73 ca74 ca75 ca76 ca77 ca78 ca79 ca80 ca81 ca82 ca83 ca84 ca85 ca86 ca87 ca88 ca89 ca90
    ca91 ca92 ca93 ca94 ca95 ca96 ca97 ca98 ca99 ca100 ca101 ca102 ca103 ca104 ca105 ca106 ca107 ca108 ca109 ca110 ca111 ca112 ca113 ca114 ca115 ca116 ca117 ca118 ca119 ca120
    ca121 ca122 ca123 ca124 ca125 ca126 ca127 ca128 ca129 ca130 ca131 ca132 ca133 ca134 ca135 ca136 ca137 ca138 ca139 ca140 ca141 ca142 ca143 ca144 ca145 ca146 ca147 ca148 ca149 ca150
    ca151 ca152 ca153 ca154 ca155 ca156 ca157 ca158 ca159 ca160 ca161 ca162 ca163 ca164 ca165 ca166 ca167 ca168 ca169 ca170 ca171 ca172 ca173 ca174 ca175 ca176 ca177 ca178 ca179 ca180
    ca181 ca182 ca183 ca184 ca185 ca186 ca187 ca188 ca189 ca190 ca191 ca192 ca193 ca194 ca195 ca196 ca197 ca198 ca199 ca200 ca201 ca202 ca203 ca204 ca205 ca206 ca207 ca208 ca209 ca210
    ca211 ca212 ca213 ca214 ca215 ca216 ca217 ca218 ca219 ca220 ca221 ca222 ca223 ca224 ca225 ca226 ca227 ca228 ca229 ca230 ca231 ca232 ca233 ca234 ca235 ca236 ca237 ca238 ca239 ca240
    ca241 ca242 ca243 ca244 ca245 ca246 ca247 ca248 ca249 ca250 ca251 ca252 ca253 ca254 ca255 ca256 ca257 ca258 ca259 ca260 ca261 ca262 ca263 ca264 ca265 ca266 ca267 ca268 ca269 ca270
    ca271 ca272 ca273 ca274 ca275 ca276 ca277 ca278 ca279 ca280 ca281 ca282 ca283 ca284 ca285 ca286 : Value}
    (hm : s.length ≤ 140737488350000) (HO3 : Hid (OwnT wb.heap.size 5 .u8 v0 (zerosL s 0) w)) (HB3 : Hid (Below wb.heap.size wb w))
    (R : Act → World → Prop)
    (hexit : Hid (∀ (v9 : Value) (w1 : World), OwnT wb.heap.size 5 .u8 v9 (zerosL s (zerosN s.length)) w1 ∧ Below wb.heap.size wb w1 → ∀ {vb30 vb31 vb32 vb33 vb34 vb35 vb36 : Value},
      R ⟨List.toArray (ca0 :: ca1 :: ca2 :: ca3 :: ca4 :: v9 :: ca6 :: ca7 :: ca8 :: ca9 :: ca10 :: ca11 :: ca12 :: ca13 :: ca14 :: ca15 :: ca16 :: ca17 :: ca18 :: ca19 :: ca20 :: ca21 :: ca22 :: ca23 :: ca24 :: ca25 :: ca26 :: ca27 :: ca28 :: ca29 ::
      vb30 :: vb31 :: vb32 :: vb33 :: vb34 :: vb35 :: vb36 :: ca37 :: ca38 :: ca39 :: ca40 :: ca41 :: ca42 :: ca43 :: ca44 :: ca45 :: ca46 :: ca47 :: ca48 :: ca49 :: ca50 :: ca51 :: ca52 :: ca53 :: ca54 :: ca55 :: ca56 :: ca57 ::
      ca58 :: ca59 :: ca60 :: ca61 :: ca62 :: ca63 :: ca64 :: ca65 :: ca66 :: ca67 :: ca68 :: ca69 :: ca70 :: ca71 :: ca72 :: ca73 :: ca74 :: ca75 :: ca76 :: ca77 :: ca78 :: ca79 :: ca80 :: ca81 :: ca82 :: ca83 :: ca84 :: ca85 ::
      ca86 :: ca87 :: ca88 :: ca89 :: ca90 :: ca91 :: ca92 :: ca93 :: ca94 :: ca95 :: ca96 :: ca97 :: ca98 :: ca99 :: ca100 :: ca101 :: ca102 :: ca103 :: ca104 :: ca105 :: ca106 :: ca107 :: ca108 :: ca109 :: ca110 :: ca111 :: ca112 ::
      ca113 :: ca114 :: ca115 :: ca116 :: ca117 :: ca118 :: ca119 :: ca120 :: ca121 :: ca122 :: ca123 :: ca124 :: ca125 :: ca126 :: ca127 :: ca128 :: ca129 :: ca130 :: ca131 :: ca132 :: ca133 :: ca134 :: ca135 :: ca136 :: ca137 ::
      ca138 :: ca139 :: ca140 :: ca141 :: ca142 :: ca143 :: ca144 :: ca145 :: ca146 :: ca147 :: ca148 :: ca149 :: ca150 :: ca151 :: ca152 :: ca153 :: ca154 :: ca155 :: ca156 :: ca157 :: ca158 :: ca159 :: ca160 :: ca161 :: ca162 ::
      ca163 :: ca164 :: ca165 :: ca166 :: ca167 :: ca168 :: ca169 :: ca170 :: ca171 :: ca172 :: ca173 :: ca174 :: ca175 :: ca176 :: ca177 :: ca178 :: ca179 :: ca180 :: ca181 :: ca182 :: ca183 :: ca184 :: ca185 :: ca186 :: ca187 ::
      ca188 :: ca189 :: ca190 :: ca191 :: ca192 :: ca193 :: ca194 :: ca195 :: ca196 :: ca197 :: ca198 :: ca199 :: ca200 :: ca201 :: ca202 :: ca203 :: ca204 :: ca205 :: ca206 :: ca207 :: ca208 :: ca209 :: ca210 :: ca211 :: ca212 ::
      ca213 :: ca214 :: ca215 :: ca216 :: ca217 :: ca218 :: ca219 :: ca220 :: ca221 :: ca222 :: ca223 :: ca224 :: ca225 :: ca226 :: ca227 :: ca228 :: ca229 :: ca230 :: ca231 :: ca232 :: ca233 :: ca234 :: ca235 :: ca236 :: ca237 ::
      ca238 :: ca239 :: ca240 :: ca241 :: ca242 :: ca243 :: ca244 :: ca245 :: ca246 :: ca247 :: ca248 :: ca249 :: ca250 :: ca251 :: ca252 :: ca253 :: ca254 :: ca255 :: ca256 :: ca257 :: ca258 :: ca259 :: ca260 :: ca261 :: ca262 ::
      ca263 :: ca264 :: ca265 :: ca266 :: ca267 :: ca268 :: ca269 :: ca270 :: ca271 :: ca272 :: ca273 :: ca274 :: ca275 :: ca276 :: ca277 :: ca278 :: ca279 :: ca280 :: ca281 :: ca282 :: ca283 :: ca284 :: ca285 :: ca286 :: []), []⟩ w1)) :
    Code.wp Tryz.prog (Code.loop (loopAt Tryz.f72 0)) (Ends 0 R) ⟨List.toArray (ca0 :: ca1 :: ca2 :: ca3 :: ca4 :: v0 :: ca6 :: ca7 :: ca8 :: ca9 :: ca10 :: ca11 :: ca12 :: ca13 :: ca14 :: ca15 :: ca16 :: ca17 :: ca18 :: ca19 :: ca20 :: ca21 :: ca22 :: ca23 :: ca24 :: ca25 :: ca26 :: ca27 :: ca28 :: ca29 ::
      ub30 :: ub31 :: ub32 :: ub33 :: ub34 :: ub35 :: ub36 :: ca37 :: ca38 :: ca39 :: ca40 :: ca41 :: ca42 :: ca43 :: ca44 :: ca45 :: ca46 :: ca47 :: ca48 :: ca49 :: ca50 :: ca51 :: ca52 :: ca53 :: ca54 :: ca55 :: ca56 :: ca57 ::
      ca58 :: ca59 :: ca60 :: ca61 :: ca62 :: ca63 :: ca64 :: ca65 :: ca66 :: ca67 :: ca68 :: ca69 :: ca70 :: ca71 :: ca72 :: ca73 :: ca74 :: ca75 :: ca76 :: ca77 :: ca78 :: ca79 :: ca80 :: ca81 :: ca82 :: ca83 :: ca84 :: ca85 ::
      ca86 :: ca87 :: ca88 :: ca89 :: ca90 :: ca91 :: ca92 :: ca93 :: ca94 :: ca95 :: ca96 :: ca97 :: ca98 :: ca99 :: ca100 :: ca101 :: ca102 :: ca103 :: ca104 :: ca105 :: ca106 :: ca107 :: ca108 :: ca109 :: ca110 :: ca111 :: ca112 ::
      ca113 :: ca114 :: ca115 :: ca116 :: ca117 :: ca118 :: ca119 :: ca120 :: ca121 :: ca122 :: ca123 :: ca124 :: ca125 :: ca126 :: ca127 :: ca128 :: ca129 :: ca130 :: ca131 :: ca132 :: ca133 :: ca134 :: ca135 :: ca136 :: ca137 ::
      ca138 :: ca139 :: ca140 :: ca141 :: ca142 :: ca143 :: ca144 :: ca145 :: ca146 :: ca147 :: ca148 :: ca149 :: ca150 :: ca151 :: ca152 :: ca153 :: ca154 :: ca155 :: ca156 :: ca157 :: ca158 :: ca159 :: ca160 :: ca161 :: ca162 ::
      ca163 :: ca164 :: ca165 :: ca166 :: ca167 :: ca168 :: ca169 :: ca170 :: ca171 :: ca172 :: ca173 :: ca174 :: ca175 :: ca176 :: ca177 :: ca178 :: ca179 :: ca180 :: ca181 :: ca182 :: ca183 :: ca184 :: ca185 :: ca186 :: ca187 ::
      ca188 :: ca189 :: ca190 :: ca191 :: ca192 :: ca193 :: ca194 :: ca195 :: ca196 :: ca197 :: ca198 :: ca199 :: ca200 :: ca201 :: ca202 :: ca203 :: ca204 :: ca205 :: ca206 :: ca207 :: ca208 :: ca209 :: ca210 :: ca211 :: ca212 ::
      ca213 :: ca214 :: ca215 :: ca216 :: ca217 :: ca218 :: ca219 :: ca220 :: ca221 :: ca222 :: ca223 :: ca224 :: ca225 :: ca226 :: ca227 :: ca228 :: ca229 :: ca230 :: ca231 :: ca232 :: ca233 :: ca234 :: ca235 :: ca236 :: ca237 ::
      ca238 :: ca239 :: ca240 :: ca241 :: ca242 :: ca243 :: ca244 :: ca245 :: ca246 :: ca247 :: ca248 :: ca249 :: ca250 :: ca251 :: ca252 :: ca253 :: ca254 :: ca255 :: ca256 :: ca257 :: ca258 :: ca259 :: ca260 :: ca261 :: ca262 ::
      ca263 :: ca264 :: ca265 :: ca266 :: ca267 :: ca268 :: ca269 :: ca270 :: ca271 :: ca272 :: ca273 :: ca274 :: ca275 :: ca276 :: ca277 :: ca278 :: ca279 :: ca280 :: ca281 :: ca282 :: ca283 :: ca284 :: ca285 :: ca286 :: []), []⟩ w := by
  conv => arg 2; arg 1; whnf
  obtain ⟨i0, hi, hz0, hz1, hz2⟩ := info_parts Tryz.infoU8
  go_loopw [5] (fun v wr => ∃ q : Nat, q ≤ zerosN s.length ∧ OwnT wb.heap.size 5 .u8 v (zerosL s q) wr ∧ Below wb.heap.size wb wr) (fun v _ => s.length + 65 - lenV v)
  case atStart => exact ⟨0, Nat.zero_le _, HO3.out, HB3.out⟩
  case round =>
    clear HO3 HB3
    obtain ⟨q, hq, ho, hb⟩ := hrel
    obtain ⟨g2, cap2, rfl⟩ := ho.form
    have hll := zerosL_len s q
    have HO3 := Lib.hid ho
    have HB3 := Lib.hid hb
    clear ho hb
    by_cases hlt : q < zerosN s.length
    · have ht : (((zerosL s q).length : Int) % 64 != 56) = true := by
        rw [bne_iff_ne, hll]
        unfold zerosN at hlt
        omega
      go_wp2_with (at_builtin; refine wpList_append_tail rfl _ _ 97 rfl wb.heap.size 5 i0 (.int .u8 0) 1 .u8 Tryz.underlying97 hi hz0 hz1 hz2 rfl _ _ rfl (HO3.out.alloc _) ⟨wr.heap.size, 0, none⟩ 1 0 rfl (cell_one_new _ _ _) ?c3 ?c4 ?c5 ?_)
      case c3 => unfold zerosN at hlt; unfold maxLen; omega
      case c4 => unfold zerosN at hlt; omega
      case c5 => have := HB3.out.size; simp; omega
      intro v4 w4 ho hgrow _
      have HB4 := Lib.hid (tail_pushed HB3.out HB3.out.size HO3.out hgrow)
      rw [← zerosL_next] at ho
      obtain ⟨g4, cap4, rfl⟩ := ho.form
      have hll4 := zerosL_len s (q + 1)
      have HO4 := Lib.hid ho
      clear HO3 HB3 ho hgrow ht
      go_wp2_with fail
      exact ⟨⟨q + 1, by omega, HO4.out, HB4.out⟩, by simp only [lenV]; unfold zerosN at hlt; omega⟩
    · obtain rfl : q = zerosN s.length := by omega
      have ht : (((zerosL s (zerosN s.length)).length : Int) % 64 != 56) = false := by
        rw [bne_eq_false_iff_eq, hll]
        unfold zerosN
        omega
      have HLL := Lib.hid hll
      clear hll hq hlt
      go_wp2_with fail
      exact ends_exit (hexit.out _ _ ⟨HO3.out, HB3.out⟩)
set_option maxHeartbeats 4000000 in
set_option maxRecDepth 100000 in
theorem of_loop2 {s : List UInt8} {v0 : Value} {N z : Nat} {wb w : World}
    {ca0 ca1 ca2 ca3 ca4 ca8 ca9 ca10 ca11 ca12 ca13 ca14 ca15 ca16 ca17 ca18 ca19 ca20 ca21 ca22 ca23 ca24 ca25 ca26 ca27 ca28 ca29 ca30 ca31 ca32
    ca33 ca34 ca35 ca36 ca37 ca38 ca39 ca40 ub41 ub42 ub43 ub44 ub45 ub46 ub47 ub48 ub49 ub50 ub51 ub52 ca53 ca54 ca55 ca56 ca57 ca58 ca59 ca60 ca61 ca62
    ca63 ca64 ca65 ca66 ca67 ca68 ca69 ca70 ca71 ca72 ca73 ca74 ca75 ca76 ca77 ca78 ca79 ca80 ca81 ca82 ca83 ca84 ca85 ca86 ca87 ca88 ca89 ca90 ca91 ca92
    ca93 ca94 ca95 ca96 ca97 ca98 ca99 ca100 ca101 ca102 ca103 ca104 ca105 ca106 ca107 ca108 ca109 ca110 ca111 ca112 ca113 ca114 ca115 ca116 ca117 ca118 ca119 ca120 ca121 ca122
    ca123 ca124 ca125 ca126 ca127 ca128 ca129 ca130 ca131 ca132 ca133 ca134 ca135 ca136 ca137 ca138 ca139 ca140 ca141 ca142 ca143 ca144 ca145 ca146 ca147 ca148 ca149 ca150 ca151 ca152
    ca153 ca154 ca155 ca156 ca157 ca158 ca159 ca160 ca161 ca162 ca163 ca164 ca165 ca166 ca167 ca168 ca169 ca170 ca171 ca172 ca173 ca174 ca175 ca176 ca177 ca178 ca179 ca180 ca181 ca182
    ca183 ca184 ca185 ca186 ca187 ca188 ca189 ca190 ca191 ca192 ca193 ca194 ca195 ca196 ca197 ca198 ca199 ca200 ca201 ca202 ca203 ca204 ca205 ca206 ca207 ca208 ca209 ca210 ca211 ca212
    ca213 ca214 ca215 ca216 ca217 ca218 ca219 ca220 ca221 ca222 ca223 ca224 ca225 ca226 ca227 ca228 ca229 ca230 ca231 ca232 ca233 ca234 ca235 ca236 ca237 ca238 ca239 ca240 ca241 ca242
    ca243 ca244 ca245 ca246 ca247 ca248 ca249 ca250 ca251 ca252 ca253 ca254 ca255 ca256 ca257 ca258 ca259 ca260 ca261 ca262 ca263 ca264 ca265 ca266 ca267 ca268 ca269 ca270 ca271 ca272
    ca273 ca274 ca275 ca276 ca277 ca278 ca279 ca280 ca281 ca282 ca283 ca284 ca285 ca286 : Value}
    (hm : s.length ≤ 140737488350000) (hz : z ≤ 63) (HNN : Hid (N < 18446744073709551616)) (HO3 : Hid (OwnT wb.heap.size 5 .u8 v0 (zerosL s z) w)) (HB3 : Hid (Below wb.heap.size wb w))
    (R : Act → World → Prop)
    (hexit : Hid (∀ (v9 : Value) (w1 : World), OwnT wb.heap.size 5 .u8 v9 (zerosL s z ++ l8 N 8) w1 ∧ Below wb.heap.size wb w1 → ∀ {vb6 vb7 vb41 vb42 vb43 vb44 vb45 vb46 vb47 vb48 vb49 vb50 vb51 vb52 : Value},
      R ⟨List.toArray (ca0 :: ca1 :: ca2 :: ca3 :: ca4 :: v9 :: vb6 :: vb7 :: ca8 :: ca9 :: ca10 :: ca11 :: ca12 :: ca13 :: ca14 :: ca15 :: ca16 :: ca17 :: ca18 :: ca19 :: ca20 :: ca21 :: ca22 :: ca23 :: ca24 :: ca25 :: ca26 :: ca27 :: ca28 :: ca29 ::
      ca30 :: ca31 :: ca32 :: ca33 :: ca34 :: ca35 :: ca36 :: ca37 :: ca38 :: ca39 :: ca40 :: vb41 :: vb42 :: vb43 :: vb44 :: vb45 :: vb46 :: vb47 :: vb48 :: vb49 :: vb50 :: vb51 :: vb52 :: ca53 :: ca54 :: ca55 :: ca56 :: ca57 ::
      ca58 :: ca59 :: ca60 :: ca61 :: ca62 :: ca63 :: ca64 :: ca65 :: ca66 :: ca67 :: ca68 :: ca69 :: ca70 :: ca71 :: ca72 :: ca73 :: ca74 :: ca75 :: ca76 :: ca77 :: ca78 :: ca79 :: ca80 :: ca81 :: ca82 :: ca83 :: ca84 :: ca85 ::
      ca86 :: ca87 :: ca88 :: ca89 :: ca90 :: ca91 :: ca92 :: ca93 :: ca94 :: ca95 :: ca96 :: ca97 :: ca98 :: ca99 :: ca100 :: ca101 :: ca102 :: ca103 :: ca104 :: ca105 :: ca106 :: ca107 :: ca108 :: ca109 :: ca110 :: ca111 :: ca112 ::
      ca113 :: ca114 :: ca115 :: ca116 :: ca117 :: ca118 :: ca119 :: ca120 :: ca121 :: ca122 :: ca123 :: ca124 :: ca125 :: ca126 :: ca127 :: ca128 :: ca129 :: ca130 :: ca131 :: ca132 :: ca133 :: ca134 :: ca135 :: ca136 :: ca137 ::
      ca138 :: ca139 :: ca140 :: ca141 :: ca142 :: ca143 :: ca144 :: ca145 :: ca146 :: ca147 :: ca148 :: ca149 :: ca150 :: ca151 :: ca152 :: ca153 :: ca154 :: ca155 :: ca156 :: ca157 :: ca158 :: ca159 :: ca160 :: ca161 :: ca162 ::
      ca163 :: ca164 :: ca165 :: ca166 :: ca167 :: ca168 :: ca169 :: ca170 :: ca171 :: ca172 :: ca173 :: ca174 :: ca175 :: ca176 :: ca177 :: ca178 :: ca179 :: ca180 :: ca181 :: ca182 :: ca183 :: ca184 :: ca185 :: ca186 :: ca187 ::
      ca188 :: ca189 :: ca190 :: ca191 :: ca192 :: ca193 :: ca194 :: ca195 :: ca196 :: ca197 :: ca198 :: ca199 :: ca200 :: ca201 :: ca202 :: ca203 :: ca204 :: ca205 :: ca206 :: ca207 :: ca208 :: ca209 :: ca210 :: ca211 :: ca212 ::
      ca213 :: ca214 :: ca215 :: ca216 :: ca217 :: ca218 :: ca219 :: ca220 :: ca221 :: ca222 :: ca223 :: ca224 :: ca225 :: ca226 :: ca227 :: ca228 :: ca229 :: ca230 :: ca231 :: ca232 :: ca233 :: ca234 :: ca235 :: ca236 :: ca237 ::
      ca238 :: ca239 :: ca240 :: ca241 :: ca242 :: ca243 :: ca244 :: ca245 :: ca246 :: ca247 :: ca248 :: ca249 :: ca250 :: ca251 :: ca252 :: ca253 :: ca254 :: ca255 :: ca256 :: ca257 :: ca258 :: ca259 :: ca260 :: ca261 :: ca262 ::
      ca263 :: ca264 :: ca265 :: ca266 :: ca267 :: ca268 :: ca269 :: ca270 :: ca271 :: ca272 :: ca273 :: ca274 :: ca275 :: ca276 :: ca277 :: ca278 :: ca279 :: ca280 :: ca281 :: ca282 :: ca283 :: ca284 :: ca285 :: ca286 :: []), []⟩ w1)) :
    Code.wp Tryz.prog (Code.loop (loopAt Tryz.f72 1)) (Ends 2 R) ⟨List.toArray (ca0 :: ca1 :: ca2 :: ca3 :: ca4 :: v0 :: .int .u64 (N : Int) :: .int .i64 0 :: ca8 :: ca9 :: ca10 :: ca11 :: ca12 :: ca13 :: ca14 :: ca15 :: ca16 :: ca17 :: ca18 :: ca19 :: ca20 :: ca21 :: ca22 :: ca23 :: ca24 :: ca25 :: ca26 ::
      ca27 :: ca28 :: ca29 :: ca30 :: ca31 :: ca32 :: ca33 :: ca34 :: ca35 :: ca36 :: ca37 :: ca38 :: ca39 :: ca40 :: ub41 :: ub42 :: ub43 :: ub44 :: ub45 :: ub46 :: ub47 :: ub48 :: ub49 :: ub50 :: ub51 :: ub52 :: ca53 :: ca54 ::
      ca55 :: ca56 :: ca57 :: ca58 :: ca59 :: ca60 :: ca61 :: ca62 :: ca63 :: ca64 :: ca65 :: ca66 :: ca67 :: ca68 :: ca69 :: ca70 :: ca71 :: ca72 :: ca73 :: ca74 :: ca75 :: ca76 :: ca77 :: ca78 :: ca79 :: ca80 :: ca81 :: ca82 ::
      ca83 :: ca84 :: ca85 :: ca86 :: ca87 :: ca88 :: ca89 :: ca90 :: ca91 :: ca92 :: ca93 :: ca94 :: ca95 :: ca96 :: ca97 :: ca98 :: ca99 :: ca100 :: ca101 :: ca102 :: ca103 :: ca104 :: ca105 :: ca106 :: ca107 :: ca108 :: ca109 ::
      ca110 :: ca111 :: ca112 :: ca113 :: ca114 :: ca115 :: ca116 :: ca117 :: ca118 :: ca119 :: ca120 :: ca121 :: ca122 :: ca123 :: ca124 :: ca125 :: ca126 :: ca127 :: ca128 :: ca129 :: ca130 :: ca131 :: ca132 :: ca133 :: ca134 ::
      ca135 :: ca136 :: ca137 :: ca138 :: ca139 :: ca140 :: ca141 :: ca142 :: ca143 :: ca144 :: ca145 :: ca146 :: ca147 :: ca148 :: ca149 :: ca150 :: ca151 :: ca152 :: ca153 :: ca154 :: ca155 :: ca156 :: ca157 :: ca158 :: ca159 ::
      ca160 :: ca161 :: ca162 :: ca163 :: ca164 :: ca165 :: ca166 :: ca167 :: ca168 :: ca169 :: ca170 :: ca171 :: ca172 :: ca173 :: ca174 :: ca175 :: ca176 :: ca177 :: ca178 :: ca179 :: ca180 :: ca181 :: ca182 :: ca183 :: ca184 ::
      ca185 :: ca186 :: ca187 :: ca188 :: ca189 :: ca190 :: ca191 :: ca192 :: ca193 :: ca194 :: ca195 :: ca196 :: ca197 :: ca198 :: ca199 :: ca200 :: ca201 :: ca202 :: ca203 :: ca204 :: ca205 :: ca206 :: ca207 :: ca208 :: ca209 ::
      ca210 :: ca211 :: ca212 :: ca213 :: ca214 :: ca215 :: ca216 :: ca217 :: ca218 :: ca219 :: ca220 :: ca221 :: ca222 :: ca223 :: ca224 :: ca225 :: ca226 :: ca227 :: ca228 :: ca229 :: ca230 :: ca231 :: ca232 :: ca233 :: ca234 ::
      ca235 :: ca236 :: ca237 :: ca238 :: ca239 :: ca240 :: ca241 :: ca242 :: ca243 :: ca244 :: ca245 :: ca246 :: ca247 :: ca248 :: ca249 :: ca250 :: ca251 :: ca252 :: ca253 :: ca254 :: ca255 :: ca256 :: ca257 :: ca258 :: ca259 ::
      ca260 :: ca261 :: ca262 :: ca263 :: ca264 :: ca265 :: ca266 :: ca267 :: ca268 :: ca269 :: ca270 :: ca271 :: ca272 :: ca273 :: ca274 :: ca275 :: ca276 :: ca277 :: ca278 :: ca279 :: ca280 :: ca281 :: ca282 :: ca283 :: ca284 ::
      ca285 :: ca286 :: []), []⟩ w := by
  conv => arg 2; arg 1; whnf
  obtain ⟨i0, hi, hz0, hz1, hz2⟩ := info_parts Tryz.infoU8
  have HLL := Lib.hid (zerosL_len s z)
  go_loopw [5, 6, 7] (fun v n i wr => ∃ q : Nat, q ≤ 8 ∧ i = .int .i64 q ∧ n = .int .u64 ((N * 256 ^ q % 18446744073709551616 : Nat) : Int) ∧ OwnT wb.heap.size 5 .u8 v (zerosL s z ++ l8 N q) wr ∧ Below wb.heap.size wb wr) (fun _ _ i _ => 8 - (intOf i).toNat)
  case atStart => exact ⟨0, by omega, rfl, by rw [Nat.pow_zero, Nat.mul_one, Nat.mod_eq_of_lt HNN.out], by rw [show l8 N 0 = [] from rfl, List.append_nil]; exact HO3.out, HB3.out⟩
  case round =>
    clear HO3 HB3
    obtain ⟨q, hq, rfl, rfl, ho, hb⟩ := hrel
    obtain ⟨g3, cap3, rfl⟩ := ho.form
    have hl3 : (zerosL s z ++ l8 N q).length = s.length + 1 + z + q := by rw [List.length_append, HLL.out, l8_len]
    have hn := Nat.mod_lt (N * 256 ^ q) (show 18446744073709551616 > 0 by decide)
    have hnx : l8 N (q + 1) = l8 N q ++ [N * 256 ^ q % 18446744073709551616 / 72057594037927936] := rfl
    have hnn : N * 256 ^ (q + 1) % 18446744073709551616 = N * 256 ^ q % 18446744073709551616 * 256 % 18446744073709551616 := by
      rw [Nat.pow_succ, ← Nat.mul_assoc]
      omega
    generalize N * 256 ^ q % 18446744073709551616 = n at hn hnx hnn ⊢
    have HX := Lib.hid hnx
    have HNX := Lib.hid hnn
    have HO3 := Lib.hid ho
    have HB3 := Lib.hid hb
    clear ho hb hnx hnn
    by_cases hlt : q < 8
    · go_wp2_with (at_builtin; refine wpList_append_tail rfl _ _ 97 rfl wb.heap.size 5 i0 (.int .u8 0) 1 .u8 Tryz.underlying97 hi hz0 hz1 hz2 rfl _ _ rfl (HO3.out.alloc _) ⟨wr.heap.size, 0, none⟩ 1 (n / 72057594037927936) rfl (cell_one_new _ _ _) ?c3 ?c4 ?c5 ?_)
      case c3 => unfold maxLen; omega
      case c4 => omega
      case c5 => have := HB3.out.size; simp; omega
      intro v4 w4 ho hgrow _
      have HB4 := Lib.hid (tail_pushed HB3.out HB3.out.size HO3.out hgrow)
      rw [← HX.out] at ho
      have HO4 := Lib.hid ho
      clear HO3 HB3 ho hgrow
      obtain ⟨y, hy⟩ : ∃ y, y = n * 256 % 18446744073709551616 := ⟨_, rfl⟩
      have hw : IntKind.u64.wrap ((n : Int) * 256) = (y : Int) := by simp [IntKind.wrap, IntKind.bits, IntKind.signed]; omega
      have HY := Lib.hid hy
      clear hy
      go_wp2_with fail
      exact ⟨⟨q + 1, by omega, by go_num, by rw [HNX.out, HY.out], HO4.out, HB4.out⟩, by simp [intOf]; omega⟩
    · obtain rfl : q = 8 := by omega
      rw [show ((8 : Nat) : Int) = 8 from rfl]
      clear hl3
      go_wp2_with fail
      exact ends_exit (hexit.out _ _ ⟨HO3.out, HB3.out⟩)
end Go.Proofs.YtpfhlhcnmeodbaaGreatDoor
