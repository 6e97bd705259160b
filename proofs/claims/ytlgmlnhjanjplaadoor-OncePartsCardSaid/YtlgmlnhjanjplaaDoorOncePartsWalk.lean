/-
  The walk of the law OnceParts.
-/
import Derived.Test.YtlgmlnhjanjplaaDoorAlive4
namespace Go.Proofs.YtlgmlnhjanjplaaDoor.onceParts
open Go.RowKit Go.BigFrame

set_option maxHeartbeats 1000000 in
set_option maxRecDepth 100000 in
theorem walk (w : World) (hk : KAt w) (s : List UInt8) (hs : s.length ≤ 140737488351232) (i : Int) (wi : (Lit.int .i64 i).wf = true) (d : List Nat) (hd : d.length = 16) (ld : ∀ y ∈ d, y < 256) :
    Calls Tryd.prog 7 #[.string ⟨s.toArray⟩, .int .i64 i, .agg (nums .u8 d).toArray] w fun e w' => e = .returned (.bool true) ∧ Below w.heap.size w w' := by
  have HK := Lib.hid hk
  have BI := Lib.hid (bounds_i64 wi)
  have HD := Lib.hid hd
  have LD := Lib.hid ld
  clear hk wi hd ld
  go_enter Tryd.func7, Tryd.ntmps7
  go_upto_region 1 with (fail)
  obtain ⟨w1, hw1⟩ : ∃ x', x' = w.alloc (.cells (nums .u8 d).toArray 23) := ⟨_, rfl⟩
  rw [← hw1]
  have hb1 : Below w.heap.size w w1 := by rw [hw1]; exact (Below.refl _ _).alloc (Nat.le_refl _) _
  have HD1 := Lib.hid (show Blk w.heap.size 23 .u8 d w1 by rw [hw1]; exact heap_alloc_new w _)
  have HB1 := Lib.hid hb1
  have HK1 := Lib.hid (HK.out.below hb1)
  have HI := Lib.hid (show (Tryd.prog.info? 23).map (·.size) = some d.length by rw [HD.out]; kernel_rfl)
  clear hb1 hw1 HK
  go_wp2_with fail
  refine (alive4_any w1 HK1.out).mono ?_
  rintro e w2 ⟨rfl, hb2⟩
  have HD2 := Lib.hid (HD1.out.below hb2)
  have HB2 := Lib.hid (HB1.out.trans (hb2.mono HB1.out.size))
  have HK2 := Lib.hid (HK1.out.below hb2)
  clear hb2 HD1 HB1 HK1
  by_cases hlong : 512 < s.length
  · have hl2 : decide ((512 : Int) < s.length) = true := decide_eq_true (by omega)
    go_wp2_with fail
    go_ret
    exact ⟨rfl, HB2.out⟩
  by_cases hneg : i < 0
  · have hl2 : decide ((512 : Int) < s.length) = false := decide_eq_false (by omega)
    have hl3 : decide (i < 0) = true := decide_eq_true hneg
    go_wp2_with fail
    go_ret
    exact ⟨rfl, HB2.out⟩
  have hl2 : decide ((512 : Int) < s.length) = false := decide_eq_false (by omega)
  have hl3 : decide (i < 0) = false := decide_eq_false hneg
  have HS := Lib.hid (show s.length ≤ 4000 by omega)
  have GL := Lib.hid (signN_len s i d)
  have GP := Shut.mk (fun k (hk : k < 35) => signN_part s i d hk)
  obtain ⟨G, hG⟩ : ∃ G, signN s i d = G := ⟨_, rfl⟩
  rw [hG] at GL GP
  have HG := Shut.mk hG
  clear hG hlong hneg
  go_upto_region 5 with (fail)
  clear hl2 hl3
  go_wp2_with (refine wpList_load_nums rfl 23 _ rfl w.heap.size .u8 _ 23 _ rfl HD2.out Tryd.underlying23 rfl HI.out ?_)
  refine (dev_sign s i d w2 HS.out BI.out.1 BI.out.2 HD.out LD.out HK2.out).mono ?_
  rintro e w3 ⟨rfl, hb3⟩
  rw [HG.out]
  have HD3 := Lib.hid (HD2.out.below hb3)
  have HB3 := Lib.hid (HB2.out.trans (hb3.mono HB2.out.size))
  have HK3 := Lib.hid (HK2.out.below hb3)
  clear hb3 HD2 HB2 HK2
  have hlen := GL.out
  go_wp2_with (refine wpList_load_nums rfl 23 _ rfl w.heap.size .u8 _ 23 _ rfl HD3.out Tryd.underlying23 rfl HI.out ?_)
  refine (dev_digits d w3 HD.out LD.out).mono ?_
  rintro e w4 ⟨rfl, hb4⟩
  have HB4 := Lib.hid (HB3.out.trans (hb4.mono HB3.out.size))
  have HK4 := Lib.hid (HK3.out.below hb4)
  have HDL := Lib.hid (digN_len HD.out)
  have LDL := Lib.hid (digN_lt HD.out LD.out)
  have HREST := Shut.mk (fun k => sign_rest s i HD.out LD.out k)
  have HSGN := Shut.mk (show ∀ k, sgnF s i d k = walkI (secN s i k) (placeB i k) 0 ((digN d).getD k 0 : Nat) from fun k => rfl)
  obtain ⟨D, hDn⟩ : ∃ D, digN d = D := ⟨_, rfl⟩
  rw [hDn] at HDL LDL HREST HSGN ⊢
  clear hb4 HD3 HB3 HK3 hlen hDn
  go_wp2_with fail
  go_loopw [32] (fun n wq => ∃ k : Nat, k ≤ 35 ∧ n = .int .i64 k ∧ Below w4.heap.size w4 wq) (fun n _ => 35 - (intOf n).toNat)
  case atStart => exact ⟨0, by omega, rfl, Below.refl _ _⟩
  case round =>
    obtain ⟨k, hk, rfl, hb⟩ := hrel
    have HB := Lib.hid hb
    have HW := Lib.hid hb.size
    have HKr := Lib.hid (HK4.out.below hb)
    clear hb
    by_cases hlk : k < 35
    · have hix := fun w => run_index_nums (P := Tryd.prog) 39 3 35 .i64 D k w Tryd.underlying39 HDL.out Tryd.sizeOf3 Tryd.isAgg3 hlk
      have hy := getD_lt LDL.out (by decide) k
      have HSG := Shut.mk (HSGN.out k)
      have HRE := Shut.mk (HREST.out k)
      generalize D.getD k 0 = y at hix hy HSG HRE
      go_upto_region 13 with (fail)
      change Code.wp _ _ _ _ ((wr.alloc (.cells #[.int .i64 i, .int .i64 (k : Int)] 27)).alloc (.cells (nums .u8 (List.replicate 16 0)).toArray 24))
      obtain ⟨w5, hw5⟩ : ∃ x', x' = (wr.alloc (.cells #[.int .i64 i, .int .i64 (k : Int)] 27)).alloc (.cells (nums .u8 (List.replicate 16 0)).toArray 24) := ⟨_, rfl⟩
      rw [← hw5]
      have h3 : Cells wr.heap.size 27 #[.int .i64 i, .int .i64 (k : Int)] w5 ∧ Blk (wr.heap.size + 1) 24 .u8 (List.replicate 16 0) w5 ∧ Below wr.heap.size wr w5 := by rw [hw5]; exact cells_nums_new wr _ _ _ _ _
      obtain ⟨hp5, hx5, hb5⟩ := h3
      have HP5 := Lib.hid hp5
      have HX5 := Lib.hid hx5
      have HB5 := Lib.hid (HB.out.trans (hb5.mono HB.out.size))
      have HK5 := Lib.hid (HKr.out.below hb5)
      obtain ⟨gp, hgp⟩ : ∃ g, g = wr.heap.size := ⟨_, rfl⟩
      obtain ⟨gx, hgx⟩ : ∃ g, g = wr.heap.size + 1 := ⟨_, rfl⟩
      have HGP := Lib.hid (show gp < gx by omega)
      have HGX := Lib.hid (show w4.heap.size ≤ gp by have := HW.out; omega)
      rw [← hgx] at HX5 ⊢
      rw [← hgp] at HP5 ⊢
      have HPL := Lib.hid (partN_len GL.out hlk)
      have HPE := Shut.mk (GP.out k hlk)
      have HPA := Lib.hid (fun q (hq : q < 16) => fun w => run_part_at (P := Tryd.prog) 9 Tryd.underlying9 G k q hq (by have := GL.out; omega) w)
      have HSL := Lib.hid (secN_len s i k)
      have HST := Lib.hid (secN_lt s i k)
      have HXT := Lib.hid (byteNs_part_lt G k)
      have HEL := Lib.hid (endF_len s i k)
      have HET := Lib.hid (endF_lt s i k)
      have D1 := Shut.mk (show ∀ w, KAt w → Calls Tryd.prog 18 #[.agg (nums .u8 (secN s i k)).toArray, .agg #[.int .i64 i, .int .i64 (k : Int)], .int .i64 0, .int .i64 (y : Int)] w fun e w' => e = .returned (.agg (nums .u8 (byteNs (part G k))).toArray) ∧ Below w.heap.size w w' from fun w hk => by
        have h := dev_walk (secN s i k) i k 0 y w HSL.out HST.out BI.out.1 BI.out.2 (by omega) (by omega) (by omega) (by omega) (by omega) (by omega) hk
        rw [← HSG.out, ← HPE.out] at h
        exact h)
      have D2 := Shut.mk (show ∀ w, KAt w → Calls Tryd.prog 18 #[.agg (nums .u8 (byteNs (part G k))).toArray, .agg #[.int .i64 i, .int .i64 (k : Int)], .int .i64 (y : Int), .int .i64 15] w fun e w' => e = .returned (.agg (nums .u8 (endF s i k)).toArray) ∧ Below w.heap.size w w' from fun w hk => by
        have h := dev_walk (byteNs (part G k)) i k y 15 w HPL.out HXT.out BI.out.1 BI.out.2 (by omega) (by omega) (by omega) (by omega) (by omega) (by omega) hk
        have e : walkI (byteNs (part G k)) (placeB i k) y 15 = endF s i k := by rw [HPE.out]; exact HRE.out
        rw [e] at h
        exact h)
      have D3 := Shut.mk (show ∀ w, KAt w → Calls Tryd.prog 18 #[.agg (nums .u8 (secN s i k)).toArray, .agg #[.int .i64 i, .int .i64 (k : Int)], .int .i64 0, .int .i64 15] w fun e w' => e = .returned (.agg (nums .u8 (endF s i k)).toArray) ∧ Below w.heap.size w w' from fun w hk =>
        dev_walk (secN s i k) i k 0 15 w HSL.out HST.out BI.out.1 BI.out.2 (by omega) (by omega) (by omega) (by omega) (by omega) (by omega) hk)
      have DS := Shut.mk (show ∀ w, KAt w → Calls Tryd.prog 9 #[.string ⟨s.toArray⟩, .agg #[.int .i64 i, .int .i64 (k : Int)]] w fun e w' => e = .returned (.agg (nums .u8 (secN s i k)).toArray) ∧ Below w.heap.size w w' from fun w hk =>
        dev_secret s i k w HS.out BI.out.1 BI.out.2 (by omega) (by omega) hk)
      clear hp5 hx5 hb5 hw5 HB HKr hix hgp hgx HW HSG HPE HRE
      generalize byteNs (part G k) = X at *
      generalize secN s i k = S at *
      generalize endF s i k = E at *
      have HIX := Lib.hid (show (Tryd.prog.info? 24).map (·.size) = some X.length by rw [HPL.out]; exact Tryd.infoE)
      have HIS := Lib.hid (show (Tryd.prog.info? 24).map (·.size) = some S.length by rw [HSL.out]; exact Tryd.infoE)
      have HIP := Lib.hid (show (Tryd.prog.info? 27).map (·.size) = some #[Value.int .i64 i, Value.int .i64 (k : Int)].size from Tryd.infoP)
      have HL2 := Lib.hid (show (List.replicate 16 0).length = S.length by rw [HSL.out]; rfl)
      go_wp2_with fail
      go_loopw [39] (fun n wq => ∃ q : Nat, q ≤ 16 ∧ n = .int .i64 q ∧ Blk gx 24 .u8 (cutP X q) wq ∧ But gx w5 wq) (fun n _ => 16 - (intOf n).toNat)
      case atStart => exact ⟨0, by omega, rfl, HX5.out, But.refl _ _⟩
      case round =>
        clear HX5
        obtain ⟨q, hq, rfl, hc, hb⟩ := hrel
        have HC := Lib.hid hc
        have HB := Lib.hid hb
        clear hc hb
        by_cases hlq : q < 16
        · have hix := HPA.out q hlq
          have c2 := HC.out.cell q (by rw [cutP_len (by rw [HPL.out]; exact Nat.le_refl _) hq]; exact hlq)
          have f2 := HC.out.frozen q
          have HS3 := Lib.hid (HC.out.set q (X.getD q 0))
          rw [cutP_set (by rw [HPL.out]; exact Nat.le_refl _) hlq] at HS3
          generalize (cutP X q).getD q 0 = z at c2
          generalize X.getD q 0 = v at hix HS3
          go_wp2_with fail
          exact ⟨⟨q + 1, by omega, by go_num, HS3.out, HB.out.setCell _ _⟩, by simp [intOf]; omega⟩
        · obtain rfl : q = 16 := by omega
          rw [cutP_full, List.take_of_length_le (by rw [HPL.out]; exact Nat.le_refl _)] at HC
          have HX5 := Lib.hid (show Blk gx 24 .u8 X wr from HC.out)
          have HP6 := Lib.hid (HP5.out.but HB.out (by have := HGP.out; omega))
          have HB6 := Lib.hid (show Below w4.heap.size w4 wr from But.toBelow HB5.out HB.out (by have := HGP.out; have := HGX.out; omega) HB5.out.size)
          have HK6 := Lib.hid (HK4.out.below HB6.out)
          clear HC HB HPA HP5 HB5 HK5
          go_wp2_with (refine wpList_load_cells rfl 27 _ rfl gp _ 27 _ rfl HP6.out Tryd.underlying27 rfl HIP.out ?_)
          refine (DS.out _ HK6.out).mono ?_
          rintro e w7 ⟨rfl, hb7⟩
          have HX7 := Lib.hid (HX5.out.below hb7)
          have HP7 := Lib.hid (HP6.out.below hb7)
          have HB7 := Lib.hid (HB6.out.trans (hb7.mono HB6.out.size))
          have HK7 := Lib.hid (HK6.out.below hb7)
          clear hb7 HX5 HP6 HB6 HK6 DS
          have HZ := Lib.hid (show Blk w7.heap.size 24 .u8 (List.replicate 16 0) (w7.alloc (.cells (nums .u8 (List.replicate 16 0)).toArray 24)) from heap_alloc_new w7 _)
          go_wp2_with (refine wpList_store_nums rfl 24 _ _ rfl rfl w7.heap.size .u8 _ S 24 rfl rfl HZ.out HIS.out HL2.out ?_)
          intro w8 hc hb
          have hb8 : Below w7.heap.size w7 w8 := But.toBelow ((Below.refl _ w7).alloc (Nat.le_refl _) _) hb.out (Nat.le_refl _) (by simp)
          have HX5 := Lib.hid (HX7.out.below hb8)
          have HP5 := Lib.hid (HP7.out.below hb8)
          have HB8 := Lib.hid (HB7.out.trans (hb8.mono HB7.out.size))
          have HK8 := Lib.hid (HK7.out.below hb8)
          obtain ⟨gs, hgs⟩ : ∃ g, g = w7.heap.size := ⟨_, rfl⟩
          have HS5 := Lib.hid (show Blk gs 24 .u8 S w8 by rw [hgs]; exact hc.out)
          rw [← hgs]
          clear hc hb hb8 hgs HX7 HP7 HB7 HK7 HZ
          have e1 := fun w => equal_elem X X HPL.out HPL.out HXT.out HXT.out w
          have e2 := fun w => equal_elem E E HEL.out HEL.out HET.out HET.out w
          rw [beq_self_eq_true] at e1 e2
          go_upto_region 19 with (fail)
          refine wp_region_class (fun w' => SS w8 w') (by kernel_rfl) (by kernel_rfl) (SS.start HK8.out) ?_
          repeat (first
            | go_big_quiet_skip
            | (refine wpQuiet_want (by rfl) (fun K hK => ?_); refine quiet_load_nums 24 (.tmp 11) rfl gx .u8 X 24 _ rfl (fun w' h => HX5.out.below h.1) Tryd.underlying24 rfl HIX.out ?_; refine hK _ ?_; clear hK K; simp only [Act.put, List.setIfInBounds_toArray, List.set_cons_zero, List.set_cons_succ])
            | (refine wpQuiet_want (by rfl) (fun K hK => ?_); refine quiet_load_nums 24 (.tmp 13) rfl gs .u8 S 24 _ rfl (fun w' h => HS5.out.below h.1) Tryd.underlying24 rfl HIS.out ?_; refine hK _ ?_; clear hK K; simp only [Act.put, List.setIfInBounds_toArray, List.set_cons_zero, List.set_cons_succ])
            | (refine wpQuiet_want (by rfl) (fun K hK => ?_); refine quiet_load_cells 27 (.tmp 10) rfl gp #[.int .i64 i, .int .i64 (k : Int)] 27 _ rfl (fun w' h => HP5.out.below h.1) Tryd.underlying27 rfl HIP.out ?_; refine hK _ ?_; clear hK K; simp only [Act.put, List.setIfInBounds_toArray, List.set_cons_zero, List.set_cons_succ])
            | go_big_quiet_step ((intro hs; rfl)))
          go_big_quiet_step ((intro hs; exact (D1.out _ hs.2).mono fun e w' h => ⟨h.1, hs.next h.2⟩))
          repeat (first
            | go_big_quiet_skip
            | (refine wpQuiet_want (by rfl) (fun K hK => ?_); refine quiet_load_nums 24 (.tmp 11) rfl gx .u8 X 24 _ rfl (fun w' h => HX5.out.below h.1) Tryd.underlying24 rfl HIX.out ?_; refine hK _ ?_; clear hK K; simp only [Act.put, List.setIfInBounds_toArray, List.set_cons_zero, List.set_cons_succ])
            | (refine wpQuiet_want (by rfl) (fun K hK => ?_); refine quiet_load_nums 24 (.tmp 13) rfl gs .u8 S 24 _ rfl (fun w' h => HS5.out.below h.1) Tryd.underlying24 rfl HIS.out ?_; refine hK _ ?_; clear hK K; simp only [Act.put, List.setIfInBounds_toArray, List.set_cons_zero, List.set_cons_succ])
            | (refine wpQuiet_want (by rfl) (fun K hK => ?_); refine quiet_load_cells 27 (.tmp 10) rfl gp #[.int .i64 i, .int .i64 (k : Int)] 27 _ rfl (fun w' h => HP5.out.below h.1) Tryd.underlying27 rfl HIP.out ?_; refine hK _ ?_; clear hK K; simp only [Act.put, List.setIfInBounds_toArray, List.set_cons_zero, List.set_cons_succ])
            | go_big_quiet_step ((intro hs; rfl)))
          go_big_quiet_step ((intro hs; exact (D2.out _ hs.2).mono fun e w' h => ⟨h.1, hs.next h.2⟩))
          repeat (first
            | go_big_quiet_skip
            | (refine wpQuiet_want (by rfl) (fun K hK => ?_); refine quiet_load_nums 24 (.tmp 11) rfl gx .u8 X 24 _ rfl (fun w' h => HX5.out.below h.1) Tryd.underlying24 rfl HIX.out ?_; refine hK _ ?_; clear hK K; simp only [Act.put, List.setIfInBounds_toArray, List.set_cons_zero, List.set_cons_succ])
            | (refine wpQuiet_want (by rfl) (fun K hK => ?_); refine quiet_load_nums 24 (.tmp 13) rfl gs .u8 S 24 _ rfl (fun w' h => HS5.out.below h.1) Tryd.underlying24 rfl HIS.out ?_; refine hK _ ?_; clear hK K; simp only [Act.put, List.setIfInBounds_toArray, List.set_cons_zero, List.set_cons_succ])
            | (refine wpQuiet_want (by rfl) (fun K hK => ?_); refine quiet_load_cells 27 (.tmp 10) rfl gp #[.int .i64 i, .int .i64 (k : Int)] 27 _ rfl (fun w' h => HP5.out.below h.1) Tryd.underlying27 rfl HIP.out ?_; refine hK _ ?_; clear hK K; simp only [Act.put, List.setIfInBounds_toArray, List.set_cons_zero, List.set_cons_succ])
            | go_big_quiet_step ((intro hs; rfl)))
          go_big_quiet_step ((intro hs; exact (D3.out _ hs.2).mono fun e w' h => ⟨h.1, hs.next h.2⟩))
          repeat (first
            | go_big_quiet_skip
            | (refine wpQuiet_want (by rfl) (fun K hK => ?_); refine quiet_load_nums 24 (.tmp 11) rfl gx .u8 X 24 _ rfl (fun w' h => HX5.out.below h.1) Tryd.underlying24 rfl HIX.out ?_; refine hK _ ?_; clear hK K; simp only [Act.put, List.setIfInBounds_toArray, List.set_cons_zero, List.set_cons_succ])
            | (refine wpQuiet_want (by rfl) (fun K hK => ?_); refine quiet_load_nums 24 (.tmp 13) rfl gs .u8 S 24 _ rfl (fun w' h => HS5.out.below h.1) Tryd.underlying24 rfl HIS.out ?_; refine hK _ ?_; clear hK K; simp only [Act.put, List.setIfInBounds_toArray, List.set_cons_zero, List.set_cons_succ])
            | (refine wpQuiet_want (by rfl) (fun K hK => ?_); refine quiet_load_cells 27 (.tmp 10) rfl gp #[.int .i64 i, .int .i64 (k : Int)] 27 _ rfl (fun w' h => HP5.out.below h.1) Tryd.underlying27 rfl HIP.out ?_; refine hK _ ?_; clear hK K; simp only [Act.put, List.setIfInBounds_toArray, List.set_cons_zero, List.set_cons_succ])
            | go_big_quiet_step ((intro hs; rfl)))
          refine wpQuiet_nil ?_
          intro w9 hs9
          have HB9 := Lib.hid (HB8.out.trans (hs9.1.mono HB8.out.size))
          clear hs9 e1 e2
          go_wp2_with fail
          exact ⟨⟨k + 1, by omega, by go_num, HB9.out⟩, by simp [intOf]; omega⟩
    · obtain rfl : k = 35 := by omega
      have HBr := Lib.hid (HB4.out.trans (HB.out.mono HB4.out.size))
      clear HB HB4 HK4
      go_wp2_with fail
      go_ret
      exact ⟨rfl, HBr.out⟩
end Go.Proofs.YtlgmlnhjanjplaaDoor.onceParts
