/-
  Joined: What the law ChainLogs asks about a place.; Rows of nodes.; The developers' elems.; Climb, the document's and the developers'.
-/
import Derived.Test.YtpfhlhcnmeodbaaGreatDoorJ07
import Derived.Test.YtpfhlhcnmeodbaaGreatDoorJ08
import Derived.Test.YtpfhlhcnmeodbaaGreatDoorJ10
import Derived.Test.YtpfhlhcnmeodbaaGreatDoorJ12
import Derived.Test.YtpfhlhcnmeodbaaGreatDoorJ13
namespace Go.Proofs.YtpfhlhcnmeodbaaGreatDoor
open Go.RowKit Go.BigFrame
theorem eql_same_ent (a : EntN) (ha : a.Ok) (w : World) : (binOp .eql 54 (.agg (entV a)) (.agg (entV a))).run Tryz.prog w = .ok (.bool true) w := by
  have h := eql_ent a a ha ha w
  rw [decide_eq_true (rfl : a = a)] at h
  exact h
theorem eql_same_aut (a : AuthN) (ha : IdOk a.hash) (w : World) : (binOp .eql 45 (.agg (autV a)) (.agg (autV a))).run Tryz.prog w = .ok (.bool true) w := by
  have h := eql_aut a a ha ha w
  rw [decide_eq_true (rfl : a = a)] at h
  exact h
theorem eql_same_id (a : List Nat) (ha : IdOk a) (w : World) : (binOp .eql 43 (.agg (nums .u8 a).toArray) (.agg (nums .u8 a).toArray)).run Tryz.prog w = .ok (.bool true) w := by
  rw [run_eql_struct, equal_idI a a ha.1 ha.1 ha.2 ha.2]
  simp
theorem neq_same_id (a : List Nat) (ha : IdOk a) (w : World) : (binOp .neq 43 (.agg (nums .u8 a).toArray) (.agg (nums .u8 a).toArray)).run Tryz.prog w = .ok (.bool false) w := by
  rw [run_neq_struct, equal_idI a a ha.1 ha.1 ha.2 ha.2]
  simp
theorem guard_id (x y : Operand) (u v : Array Value) (w : World) : (eqGuard .eql 43 x y (.agg u) (.agg v)).run Tryz.prog w = .ok () w := run_eqGuard_agg w .eql 43 x y u v (by kernel_rfl)
theorem guard_neqI (x y : Operand) (u v : Array Value) (w : World) : (eqGuard .neq 43 x y (.agg u) (.agg v)).run Tryz.prog w = .ok () w := run_eqGuard_agg w .neq 43 x y u v (by kernel_rfl)
set_option maxHeartbeats 16000000 in
set_option maxRecDepth 100000 in
theorem asked16_any {N : Nat} {O R : Nat → Prop} {vd : Value} {g : Nat} {nd : Int} {seed : List UInt8} {h : Nat} {L : List EntN} (q t : Int) (w : World) (hk : KAt w) (l : LogIs N O vd nd seed h L w) (r : RLog R g nd seed h L w)
    (hL : ∀ x ∈ L, x.Len ∧ x.seq < 9223372036854775808) (hl : L.length ≤ 2 ^ h) (h8 : h ≤ 8) (hs : seed.length ≤ 64) (hnd : 0 ≤ nd ∧ nd ≤ 9223372036854775807) (q0 : -9223372036854775808 ≤ q) (q1 : q ≤ 9223372036854775807) (t0 : -9223372036854775808 ≤ t) (t1 : t ≤ 9223372036854775807) :
    Calls Tryz.prog 8 #[vd, .pointer (some ⟨g, 0, none⟩), .int .i64 q, .int .i64 t] w fun e w' => e = .returned (.bool true) ∧ Below w.heap.size w w' := by
  obtain ⟨av, rfl⟩ := l.ptr
  have HK := Lib.hid hk
  have HL := Lib.hid l
  have HR := Lib.hid r
  have HLL := Lib.hid hL
  have HKH := Lib.hid hl
  have H8 := Lib.hid h8
  have HSD := Lib.hid hs
  have HND := Lib.hid hnd
  obtain ⟨n, hnn⟩ : ∃ n, L.length = n := ⟨_, rfl⟩
  have HN := Shut.mk hnn
  have n256 : n ≤ 256 := by
    have := Nat.pow_le_pow_right (show 1 ≤ 2 by decide) h8
    have h2 : 2 ^ 8 = 256 := rfl
    omega
  have HZE := Lib.hid (show (Tryz.prog.info? 54).bind (·.zero) = some (.agg (entL noE).toArray) by kernel_rfl)
  have HZI := Lib.hid (show (Tryz.prog.info? 43).bind (·.zero) = some (.agg (nums .u8 zeroI).toArray) by kernel_rfl)
  have HZA := Lib.hid (show (Tryz.prog.info? 45).bind (·.zero) = some (.agg (autL noA).toArray) by kernel_rfl)
  rw [hnn] at hl
  clear hk l r hL hs hnd hnn h8
  go_enter Tryz.func8, Tryz.ntmps8
  by_cases hout : q < 0 ∨ (n : Int) < q
  · have HO := Lib.hid (show q < 0 ∨ (L.length : Int) < q by rw [HN.out]; exact hout)
    rcases hout with hq | hq
    all_goals
      have HXO := Lib.hid (show (noE).Ok from noE_ok)
      have HAO := Lib.hid (show IdOk (noA).hash from zeroI_ok)
      have HHO := Lib.hid (show IdOk (zeroI) from zeroI_ok)
      have HSX := Lib.hid (sizeEV HXO.out)
      have HSA := Lib.hid (sizeAV HAO.out)
      have HSH := Lib.hid (show (Tryz.prog.info? 43).map (·.size) = some (zeroI).length by rw [HHO.out.1]; exact Tryz.sizeI)
      go_wp2_with fail
      refine (dev_atNone q w HL.out (HO.out.imp (fun h => by omega) id)).mono ?_
      rintro e w1 ⟨rfl, hb⟩
      have HL1 := Lib.hid (HL.out.below hb)
      have HR1 := Lib.hid (HR.out.below hb)
      have HB1 := Lib.hid hb
      clear hb
      go_wp2_with (first
        | (refine wpList_alloc_of rfl 54 rfl (entL noE) HZE.out ?_)
        | (refine wpList_store_cells rfl 54 _ _ rfl rfl w1.heap.size (entV noE) (entV (noE)) 54 rfl rfl (heap_alloc_new w1 _) HSX.out ((entV_size noE_ok).trans (entV_size HXO.out).symm) (entV_all _) ?_))
      intro w2 hc hb
      have hbb : Below w1.heap.size w1 w2 := But.toBelow ((Below.refl _ w1).alloc (Nat.le_refl _) _) hb.out (Nat.le_refl _) (by rw [World.size_alloc]; exact Nat.le_succ _)
      have HX2 := Lib.hid hc.out
      have HL2 := Lib.hid (HL1.out.below hbb)
      have HR2 := Lib.hid (HR1.out.below hbb)
      have HB2 := Lib.hid (HB1.out.trans (hbb.mono HB1.out.size))
      obtain ⟨gx, hgx⟩ : ∃ z, z = w1.heap.size := ⟨_, rfl⟩
      rw [← hgx] at HX2 ⊢
      clear hc hb hbb hgx HL1 HR1 HB1
      go_wp2_with fail
      refine (dev_hashNone q w2 HL2.out HO.out).mono ?_
      rintro e w3 ⟨rfl, hb⟩
      have HX3 := Lib.hid (HX2.out.below hb)
      have HL3 := Lib.hid (HL2.out.below hb)
      have HR3 := Lib.hid (HR2.out.below hb)
      have HB3 := Lib.hid (HB2.out.trans (hb.mono HB2.out.size))
      clear hb HX2 HL2 HR2 HB2
      go_wp2_with (first
        | (refine wpList_alloc_of rfl 43 rfl (nums .u8 zeroI) HZI.out ?_)
        | (refine wpList_store_nums rfl 43 _ _ rfl rfl w3.heap.size .u8 zeroI (zeroI) 43 rfl rfl (heap_alloc_new w3 _) HSH.out (zeroI_ok.1.trans HHO.out.1.symm) ?_))
      intro w4 hc hb
      have hbb : Below w3.heap.size w3 w4 := But.toBelow ((Below.refl _ w3).alloc (Nat.le_refl _) _) hb.out (Nat.le_refl _) (by rw [World.size_alloc]; exact Nat.le_succ _)
      have HH4 := Lib.hid (show Blk w3.heap.size 43 .u8 (zeroI) w4 from hc.out)
      have HX4 := Lib.hid (HX3.out.below hbb)
      have HL4 := Lib.hid (HL3.out.below hbb)
      have HR4 := Lib.hid (HR3.out.below hbb)
      have HB4 := Lib.hid (HB3.out.trans (hbb.mono HB3.out.size))
      obtain ⟨gh, hgh⟩ : ∃ z, z = w3.heap.size := ⟨_, rfl⟩
      rw [← hgh] at HH4 ⊢
      clear hc hb hbb hgh HX3 HL3 HR3 HB3
      have HK4 := Lib.hid (HK.out.below HB4.out)
      go_wp2_with fail
      refine (dev_authNone q w4 HL4.out (HO.out.imp (fun h => by omega) id)).mono ?_
      rintro e w5 ⟨rfl, hb⟩
      have HH5 := Lib.hid (HH4.out.below hb)
      have HX5 := Lib.hid (HX4.out.below hb)
      have HL5 := Lib.hid (HL4.out.below hb)
      have HR5 := Lib.hid (HR4.out.below hb)
      have HB5 := Lib.hid (HB4.out.trans (hb.mono HB4.out.size))
      clear hb HH4 HX4 HL4 HR4 HB4 HK4
      go_wp2_with (first
        | (refine wpList_alloc_of rfl 45 rfl (autL noA) HZA.out ?_)
        | (refine wpList_store_cells rfl 45 _ _ rfl rfl w5.heap.size (autV noA) (autV (noA)) 45 rfl rfl (heap_alloc_new w5 _) HSA.out ((autV_size (a := noA) zeroI_ok).trans (autV_size HAO.out).symm) (autV_all _) ?_))
      intro w6 hc hb
      have hbb : Below w5.heap.size w5 w6 := But.toBelow ((Below.refl _ w5).alloc (Nat.le_refl _) _) hb.out (Nat.le_refl _) (by rw [World.size_alloc]; exact Nat.le_succ _)
      have HA6 := Lib.hid hc.out
      have HH6 := Lib.hid (HH5.out.below hbb)
      have HX6 := Lib.hid (HX5.out.below hbb)
      have HL6 := Lib.hid (HL5.out.below hbb)
      have HR6 := Lib.hid (HR5.out.below hbb)
      have HB6 := Lib.hid (HB5.out.trans (hbb.mono HB5.out.size))
      obtain ⟨ga, hga⟩ : ∃ z, z = w5.heap.size := ⟨_, rfl⟩
      rw [← hga] at HA6 ⊢
      clear hc hb hbb hga HH5 HX5 HL5 HR5 HB5
      obtain ⟨la, lc, lv, hRR, hcg, _, hol⟩ := HR6.out
      obtain ⟨ao, ca, rfl⟩ := hol.form
      have HAT := Lib.hid hol.at
      have HCA := Lib.hid hol.cap
      have HCG := Lib.hid hcg
      have c3 : w6.cell? ⟨g, 3, none⟩ = some (.slice ao n ca) := by rw [← HN.out]; exact hcg.at 3
      clear hRR hcg hol
      have HE1 := Lib.hid (eql_same_ent noE noE_ok)
      have HE2 := Lib.hid (eql_same_id zeroI zeroI_ok)
      have HE3 := Lib.hid (eql_same_aut noA zeroI_ok)
      have HBI := Lib.hid built_id0
      have HBE := Lib.hid built_ent0
      have HBA := Lib.hid built_aut0
      go_wp2_with (first
        | (refine wpList_load_cells_want (by rfl) 54 _ rfl gx (entV noE) 54 _ rfl HX6.out Tryz.underlying54 rfl HSX.out ?_)
        | (refine wpList_load_want (by rfl) 43 _ rfl gh .u8 zeroI 43 _ rfl HH6.out Tryz.underlying43 rfl HSH.out ?_)
        | (refine wpList_load_cells_want (by rfl) 45 _ rfl ga (autV noA) 45 _ rfl HA6.out Tryz.underlying45 rfl HSA.out ?_)
        | (refine wpList_build_want (by rfl) 54 _ rfl [] _ (by simp) HBE.out ?_)
        | (refine wpList_build_want (by rfl) 43 _ rfl [] _ (by simp) HBI.out ?_)
        | (refine wpList_build_want (by rfl) 45 _ rfl [] _ (by simp) HBA.out ?_)
        | (refine wpList_bin_want (by rfl) .eql 54 _ _ _ rfl (.agg (entV noE)) (.agg (entV noE)) _ rfl rfl (guard_ent _ (.inl rfl) _ _ _ _) HE1.out ?_)
        | (refine wpList_bin_want (by rfl) .eql 43 _ _ _ rfl (.agg (nums .u8 zeroI).toArray) (.agg (nums .u8 zeroI).toArray) _ rfl rfl (guard_id _ _ _ _) HE2.out ?_)
        | (refine wpList_bin_want (by rfl) .eql 45 _ _ _ rfl (.agg (autV noA)) (.agg (autV noA)) _ rfl rfl (guard_aut _ _ _ _) HE3.out ?_))
      have HPN := Shut.mk (show partL L q t = [] by rw [partL, if_neg (by rw [HN.out]; have := HO.out; omega)])
      refine (dev_part q t w6 HL6.out (by rw [HN.out]; omega)).mono ?_
      rintro e w7 ⟨⟨u, rfl, hu⟩, hb⟩
      rw [HPN.out] at hu
      obtain ⟨ap, cp, rfl⟩ := hu.form
      have HB7 := Lib.hid (HB6.out.trans (hb.mono HB6.out.size))
      rw [show (([] : List EntN).length) = 0 from rfl]
      clear hu hb
      go_wp2_with fail
      go_ret
      exact ⟨rfl, HB7.out⟩
  · obtain ⟨k, rfl⟩ := Int.eq_ofNat_of_zero_le (show 0 ≤ q by omega)
    have hkn : k ≤ n := by omega
    by_cases hk0 : k = 0
    · subst hk0
      have HXO := Lib.hid (show (noE).Ok from noE_ok)
      have HAO := Lib.hid (show IdOk (noA).hash from zeroI_ok)
      have HHO := Lib.hid (show IdOk (hashL L 0) from hashL_ok _ _)
      have HSX := Lib.hid (sizeEV HXO.out)
      have HSA := Lib.hid (sizeAV HAO.out)
      have HSH := Lib.hid (show (Tryz.prog.info? 43).map (·.size) = some (hashL L 0).length by rw [HHO.out.1]; exact Tryz.sizeI)
      go_wp2_with fail
      refine (dev_atNone 0 w HL.out (.inl (by decide))).mono ?_
      rintro e w1 ⟨rfl, hb⟩
      have HL1 := Lib.hid (HL.out.below hb)
      have HR1 := Lib.hid (HR.out.below hb)
      have HB1 := Lib.hid hb
      clear hb
      go_wp2_with (first
        | (refine wpList_alloc_of rfl 54 rfl (entL noE) HZE.out ?_)
        | (refine wpList_store_cells rfl 54 _ _ rfl rfl w1.heap.size (entV noE) (entV (noE)) 54 rfl rfl (heap_alloc_new w1 _) HSX.out ((entV_size noE_ok).trans (entV_size HXO.out).symm) (entV_all _) ?_))
      intro w2 hc hb
      have hbb : Below w1.heap.size w1 w2 := But.toBelow ((Below.refl _ w1).alloc (Nat.le_refl _) _) hb.out (Nat.le_refl _) (by rw [World.size_alloc]; exact Nat.le_succ _)
      have HX2 := Lib.hid hc.out
      have HL2 := Lib.hid (HL1.out.below hbb)
      have HR2 := Lib.hid (HR1.out.below hbb)
      have HB2 := Lib.hid (HB1.out.trans (hbb.mono HB1.out.size))
      obtain ⟨gx, hgx⟩ : ∃ z, z = w1.heap.size := ⟨_, rfl⟩
      rw [← hgx] at HX2 ⊢
      clear hc hb hbb hgx HL1 HR1 HB1
      go_wp2_with fail
      refine (dev_hash 0 w2 HL2.out (Nat.zero_le _) (by rw [HN.out]; omega)).mono ?_
      rintro e w3 ⟨rfl, hb⟩
      have HX3 := Lib.hid (HX2.out.below hb)
      have HL3 := Lib.hid (HL2.out.below hb)
      have HR3 := Lib.hid (HR2.out.below hb)
      have HB3 := Lib.hid (HB2.out.trans (hb.mono HB2.out.size))
      clear hb HX2 HL2 HR2 HB2
      go_wp2_with (first
        | (refine wpList_alloc_of rfl 43 rfl (nums .u8 zeroI) HZI.out ?_)
        | (refine wpList_store_nums rfl 43 _ _ rfl rfl w3.heap.size .u8 zeroI (hashL L 0) 43 rfl rfl (heap_alloc_new w3 _) HSH.out (zeroI_ok.1.trans HHO.out.1.symm) ?_))
      intro w4 hc hb
      have hbb : Below w3.heap.size w3 w4 := But.toBelow ((Below.refl _ w3).alloc (Nat.le_refl _) _) hb.out (Nat.le_refl _) (by rw [World.size_alloc]; exact Nat.le_succ _)
      have HH4 := Lib.hid (show Blk w3.heap.size 43 .u8 (hashL L 0) w4 from hc.out)
      have HX4 := Lib.hid (HX3.out.below hbb)
      have HL4 := Lib.hid (HL3.out.below hbb)
      have HR4 := Lib.hid (HR3.out.below hbb)
      have HB4 := Lib.hid (HB3.out.trans (hbb.mono HB3.out.size))
      obtain ⟨gh, hgh⟩ : ∃ z, z = w3.heap.size := ⟨_, rfl⟩
      rw [← hgh] at HH4 ⊢
      clear hc hb hbb hgh HX3 HL3 HR3 HB3
      have HK4 := Lib.hid (HK.out.below HB4.out)
      go_wp2_with fail
      refine (dev_authNone 0 w4 HL4.out (.inl (by decide))).mono ?_
      rintro e w5 ⟨rfl, hb⟩
      have HH5 := Lib.hid (HH4.out.below hb)
      have HX5 := Lib.hid (HX4.out.below hb)
      have HL5 := Lib.hid (HL4.out.below hb)
      have HR5 := Lib.hid (HR4.out.below hb)
      have HB5 := Lib.hid (HB4.out.trans (hb.mono HB4.out.size))
      clear hb HH4 HX4 HL4 HR4 HB4 HK4
      go_wp2_with (first
        | (refine wpList_alloc_of rfl 45 rfl (autL noA) HZA.out ?_)
        | (refine wpList_store_cells rfl 45 _ _ rfl rfl w5.heap.size (autV noA) (autV (noA)) 45 rfl rfl (heap_alloc_new w5 _) HSA.out ((autV_size (a := noA) zeroI_ok).trans (autV_size HAO.out).symm) (autV_all _) ?_))
      intro w6 hc hb
      have hbb : Below w5.heap.size w5 w6 := But.toBelow ((Below.refl _ w5).alloc (Nat.le_refl _) _) hb.out (Nat.le_refl _) (by rw [World.size_alloc]; exact Nat.le_succ _)
      have HA6 := Lib.hid hc.out
      have HH6 := Lib.hid (HH5.out.below hbb)
      have HX6 := Lib.hid (HX5.out.below hbb)
      have HL6 := Lib.hid (HL5.out.below hbb)
      have HR6 := Lib.hid (HR5.out.below hbb)
      have HB6 := Lib.hid (HB5.out.trans (hbb.mono HB5.out.size))
      obtain ⟨ga, hga⟩ : ∃ z, z = w5.heap.size := ⟨_, rfl⟩
      rw [← hga] at HA6 ⊢
      clear hc hb hbb hga HH5 HX5 HL5 HR5 HB5
      obtain ⟨la, lc, lv, hRR, hcg, _, hol⟩ := HR6.out
      obtain ⟨ao, ca, rfl⟩ := hol.form
      have HAT := Lib.hid hol.at
      have HCA := Lib.hid hol.cap
      have HCG := Lib.hid hcg
      have c3 : w6.cell? ⟨g, 3, none⟩ = some (.slice ao n ca) := by rw [← HN.out]; exact hcg.at 3
      clear hRR hcg hol
      have HHB := Lib.hid (fun (w' : World) (b : Below w6.heap.size w6 w') => HH6.out.below b)
      have HHF := Lib.hid (fun (w' : World) (b : Below w6.heap.size w6 w') => ref_hash16 0 w' (HR6.out.below b) (by rw [HN.out]; exact hkn) HLL.out (by rw [HN.out]; omega))
      have HNZ := Lib.hid (neq_same_id (hashL L 0) HHO.out)
      go_upto_region 7 with (fail)
      refine wp_region_class (fun w' => Below w6.heap.size w6 w') (by kernel_rfl) (by kernel_rfl) (Below.refl _ _).drew ?_
      repeat (first
        | go_big_quiet_skip
        | (go_big_quiet_want; refine quiet_load_nums 43 _ rfl gh .u8 (hashL L 0) 43 _ rfl HHB.out Tryz.underlying43 rfl HSH.out ?_; go_big_quiet_on; simp only [Act.put, List.setIfInBounds_toArray, List.set_cons_zero, List.set_cons_succ])
        | (go_big_quiet_want; refine quiet_bin .neq 43 _ _ _ rfl (.agg (nums .u8 (hashL L 0)).toArray) (.agg (nums .u8 (hashL L 0)).toArray) _ rfl rfl (guard_neqI _ _ _ _) HNZ.out ?_; go_big_quiet_on; simp only [Act.put, List.setIfInBounds_toArray, List.set_cons_zero, List.set_cons_succ])
        | go_big_quiet_step ((intro hs'; first
            | (go_at_call 23; exact (HHF.out _ hs').mono fun e w' h => ⟨h.1, hs'.trans (h.2.mono hs'.size)⟩)
            | rfl)))
      refine wpQuiet_nil ?_
      intro w7 hs7
      have HX7 := Lib.hid (HX6.out.below hs7)
      have HA7 := Lib.hid (HA6.out.below hs7)
      have HL7 := Lib.hid (HL6.out.below hs7)
      have HR7 := Lib.hid (HR6.out.below hs7)
      have HAT7 := Lib.hid (HAT.out.below hs7)
      have HCG7 := Lib.hid (Cells.below HCG.out hs7)
      have HB7 := Lib.hid (HB6.out.trans (hs7.mono HB6.out.size))
      clear hs7 c3 HX6 HA6 HL6 HR6 HB6 HHB HHF HNZ HH6 HAT HCG
      go_wp2_with fail
      have HPN := Shut.mk (show partL L 0 t = [] by rw [partL, if_neg (by omega)])
      refine (dev_part 0 t w7 HL7.out (by rw [HN.out]; omega)).mono ?_
      rintro e w8 ⟨⟨u, rfl, hu⟩, hb⟩
      rw [HPN.out] at hu
      obtain ⟨ap, cp, rfl⟩ := hu.form
      have HB8 := Lib.hid (HB7.out.trans (hb.mono HB7.out.size))
      rw [show (([] : List EntN).length) = 0 from rfl]
      clear hu hb
      go_wp2_with fail
      go_ret
      exact ⟨rfl, HB8.out⟩
    · have hk1 : 1 ≤ k := by omega
      obtain ⟨y, hy⟩ : ∃ y, L[k - 1]? = some y := ⟨_, List.getElem?_eq_getElem (by rw [HN.out]; omega)⟩
      have HY := Lib.hid (HLL.out y (List.mem_of_getElem? hy))
      have HAT0 := Lib.hid (show ∀ w', LogIs N O (.pointer (some av)) nd seed h L w' → Calls Tryz.prog 15 #[.pointer (some av), .int .i64 (k : Int)] w' fun r w'' => r = .returned (.tuple #[.agg (entV y), .int .i64 0]) ∧ Below w'.heap.size w' w'' from fun w' l => by
        have h := dev_at (k - 1) y w' l hy (by rw [HN.out]; omega)
        rw [Nat.sub_add_cancel hk1] at h
        exact h)
      have HKN := Lib.hid (show k ≤ L.length by rw [HN.out]; exact hkn)
      obtain ⟨AZ, hAU⟩ : ∃ a, authL nd seed h L k = a := ⟨_, rfl⟩
      have HAUK := Lib.hid (show IdOk AZ.hash by rw [← hAU]; exact hashL_ok _ _)
      have HDA := Lib.hid (fun w' (l : LogIs N O (.pointer (some av)) nd seed h L w') (q : KAt w') => dev_auth k w' l hk1 HKN.out q)
      rw [hAU] at HDA
      have HSL := Lib.hid (sizeEL HY.out.1.ok)
      have HE1 := Lib.hid (eql_same_ent y HY.out.1.ok)
      have HE3 := Lib.hid (eql_same_aut AZ HAUK.out)
      have HSU := Lib.hid (sub_one16 k hk1 (by omega))
      have HXO := Lib.hid (show (y).Ok from HY.out.1.ok)
      have HAO := Lib.hid (show IdOk (AZ).hash from HAUK.out)
      have HHO := Lib.hid (show IdOk (hashL L k) from hashL_ok _ _)
      have HSX := Lib.hid (sizeEV HXO.out)
      have HSA := Lib.hid (sizeAV HAO.out)
      have HSH := Lib.hid (show (Tryz.prog.info? 43).map (·.size) = some (hashL L k).length by rw [HHO.out.1]; exact Tryz.sizeI)
      go_wp2_with fail
      refine (HAT0.out w HL.out).mono ?_
      rintro e w1 ⟨rfl, hb⟩
      have HL1 := Lib.hid (HL.out.below hb)
      have HR1 := Lib.hid (HR.out.below hb)
      have HB1 := Lib.hid hb
      clear hb
      go_wp2_with (first
        | (refine wpList_alloc_of rfl 54 rfl (entL noE) HZE.out ?_)
        | (refine wpList_store_cells rfl 54 _ _ rfl rfl w1.heap.size (entV noE) (entV (y)) 54 rfl rfl (heap_alloc_new w1 _) HSX.out ((entV_size noE_ok).trans (entV_size HXO.out).symm) (entV_all _) ?_))
      intro w2 hc hb
      have hbb : Below w1.heap.size w1 w2 := But.toBelow ((Below.refl _ w1).alloc (Nat.le_refl _) _) hb.out (Nat.le_refl _) (by rw [World.size_alloc]; exact Nat.le_succ _)
      have HX2 := Lib.hid hc.out
      have HL2 := Lib.hid (HL1.out.below hbb)
      have HR2 := Lib.hid (HR1.out.below hbb)
      have HB2 := Lib.hid (HB1.out.trans (hbb.mono HB1.out.size))
      obtain ⟨gx, hgx⟩ : ∃ z, z = w1.heap.size := ⟨_, rfl⟩
      rw [← hgx] at HX2 ⊢
      clear hc hb hbb hgx HL1 HR1 HB1
      go_wp2_with fail
      refine (dev_hash k w2 HL2.out HKN.out (by rw [HN.out]; omega)).mono ?_
      rintro e w3 ⟨rfl, hb⟩
      have HX3 := Lib.hid (HX2.out.below hb)
      have HL3 := Lib.hid (HL2.out.below hb)
      have HR3 := Lib.hid (HR2.out.below hb)
      have HB3 := Lib.hid (HB2.out.trans (hb.mono HB2.out.size))
      clear hb HX2 HL2 HR2 HB2
      go_wp2_with (first
        | (refine wpList_alloc_of rfl 43 rfl (nums .u8 zeroI) HZI.out ?_)
        | (refine wpList_store_nums rfl 43 _ _ rfl rfl w3.heap.size .u8 zeroI (hashL L k) 43 rfl rfl (heap_alloc_new w3 _) HSH.out (zeroI_ok.1.trans HHO.out.1.symm) ?_))
      intro w4 hc hb
      have hbb : Below w3.heap.size w3 w4 := But.toBelow ((Below.refl _ w3).alloc (Nat.le_refl _) _) hb.out (Nat.le_refl _) (by rw [World.size_alloc]; exact Nat.le_succ _)
      have HH4 := Lib.hid (show Blk w3.heap.size 43 .u8 (hashL L k) w4 from hc.out)
      have HX4 := Lib.hid (HX3.out.below hbb)
      have HL4 := Lib.hid (HL3.out.below hbb)
      have HR4 := Lib.hid (HR3.out.below hbb)
      have HB4 := Lib.hid (HB3.out.trans (hbb.mono HB3.out.size))
      obtain ⟨gh, hgh⟩ : ∃ z, z = w3.heap.size := ⟨_, rfl⟩
      rw [← hgh] at HH4 ⊢
      clear hc hb hbb hgh HX3 HL3 HR3 HB3
      have HK4 := Lib.hid (HK.out.below HB4.out)
      go_wp2_with fail
      refine (HDA.out w4 HL4.out HK4.out).mono ?_
      rintro e w5 ⟨rfl, hb⟩
      have HH5 := Lib.hid (HH4.out.below hb)
      have HX5 := Lib.hid (HX4.out.below hb)
      have HL5 := Lib.hid (HL4.out.below hb)
      have HR5 := Lib.hid (HR4.out.below hb)
      have HB5 := Lib.hid (HB4.out.trans (hb.mono HB4.out.size))
      clear hb HH4 HX4 HL4 HR4 HB4 HK4
      go_wp2_with (first
        | (refine wpList_alloc_of rfl 45 rfl (autL noA) HZA.out ?_)
        | (refine wpList_store_cells rfl 45 _ _ rfl rfl w5.heap.size (autV noA) (autV (AZ)) 45 rfl rfl (heap_alloc_new w5 _) HSA.out ((autV_size (a := noA) zeroI_ok).trans (autV_size HAO.out).symm) (autV_all _) ?_))
      intro w6 hc hb
      have hbb : Below w5.heap.size w5 w6 := But.toBelow ((Below.refl _ w5).alloc (Nat.le_refl _) _) hb.out (Nat.le_refl _) (by rw [World.size_alloc]; exact Nat.le_succ _)
      have HA6 := Lib.hid hc.out
      have HH6 := Lib.hid (HH5.out.below hbb)
      have HX6 := Lib.hid (HX5.out.below hbb)
      have HL6 := Lib.hid (HL5.out.below hbb)
      have HR6 := Lib.hid (HR5.out.below hbb)
      have HB6 := Lib.hid (HB5.out.trans (hbb.mono HB5.out.size))
      obtain ⟨ga, hga⟩ : ∃ z, z = w5.heap.size := ⟨_, rfl⟩
      rw [← hga] at HA6 ⊢
      clear hc hb hbb hga HH5 HX5 HL5 HR5 HB5
      obtain ⟨la, lc, lv, hRR, hcg, _, hol⟩ := HR6.out
      obtain ⟨ao, ca, rfl⟩ := hol.form
      have HAT := Lib.hid hol.at
      have HCA := Lib.hid hol.cap
      have HCG := Lib.hid hcg
      have c3 : w6.cell? ⟨g, 3, none⟩ = some (.slice ao n ca) := by rw [← HN.out]; exact hcg.at 3
      clear hRR hcg hol
      have HHB := Lib.hid (fun (w' : World) (b : Below w6.heap.size w6 w') => HH6.out.below b)
      have HHF := Lib.hid (fun (w' : World) (b : Below w6.heap.size w6 w') => ref_hash16 k w' (HR6.out.below b) (by rw [HN.out]; exact hkn) HLL.out (by rw [HN.out]; omega))
      have HNZ := Lib.hid (neq_same_id (hashL L k) HHO.out)
      go_upto_region 7 with (fail)
      refine wp_region_class (fun w' => Below w6.heap.size w6 w') (by kernel_rfl) (by kernel_rfl) (Below.refl _ _).drew ?_
      repeat (first
        | go_big_quiet_skip
        | (go_big_quiet_want; refine quiet_load_nums 43 _ rfl gh .u8 (hashL L k) 43 _ rfl HHB.out Tryz.underlying43 rfl HSH.out ?_; go_big_quiet_on; simp only [Act.put, List.setIfInBounds_toArray, List.set_cons_zero, List.set_cons_succ])
        | (go_big_quiet_want; refine quiet_bin .neq 43 _ _ _ rfl (.agg (nums .u8 (hashL L k)).toArray) (.agg (nums .u8 (hashL L k)).toArray) _ rfl rfl (guard_neqI _ _ _ _) HNZ.out ?_; go_big_quiet_on; simp only [Act.put, List.setIfInBounds_toArray, List.set_cons_zero, List.set_cons_succ])
        | go_big_quiet_step ((intro hs'; first
            | (go_at_call 23; exact (HHF.out _ hs').mono fun e w' h => ⟨h.1, hs'.trans (h.2.mono hs'.size)⟩)
            | rfl)))
      refine wpQuiet_nil ?_
      intro w7 hs7
      have HX7 := Lib.hid (HX6.out.below hs7)
      have HA7 := Lib.hid (HA6.out.below hs7)
      have HL7 := Lib.hid (HL6.out.below hs7)
      have HR7 := Lib.hid (HR6.out.below hs7)
      have HAT7 := Lib.hid (HAT.out.below hs7)
      have HCG7 := Lib.hid (Cells.below HCG.out hs7)
      have HB7 := Lib.hid (HB6.out.trans (hs7.mono HB6.out.size))
      clear hs7 c3 HX6 HA6 HL6 HR6 HB6 HHB HHF HNZ HH6 HAT HCG
      obtain ⟨bb, ob, hao, hbl, hry⟩ := HAT7.out.getM hy
      have hkne : ((k : Int) == 0) = false := by simp; omega
      clear hy
      go_wp2_with fail
      refine (dev_part k t w7 HL7.out (by rw [HN.out]; omega)).mono ?_
      rintro e w8 ⟨⟨u, rfl, hu⟩, hb⟩
      obtain ⟨ap, cp, rfl⟩ := hu.form
      have hry8 := rangeAt_belowI hry hb hbl
      have hbl8 := Nat.lt_of_lt_of_le hbl hb.size
      have HXW := Lib.hid (HX7.out.below hb)
      have HAW := Lib.hid (HA7.out.below hb)
      have HRW := Lib.hid (HR7.out.below hb)
      have HATW := Lib.hid (HAT7.out.below hb)
      have HCW := Lib.hid (Cells.below HCG7.out hb)
      have HBW := Lib.hid (HB7.out.trans (hb.mono HB7.out.size))
      have HPA := Lib.hid hu.at
      have HPO := Lib.hid hu.2
      clear hu hb hry hbl HX7 HA7 HL7 HR7 HAT7 HCG7 HB7 hkne
      obtain ⟨pl, hpl⟩ : ∃ m, (partL L k t).length = m := ⟨_, rfl⟩
      have HPL := Shut.mk hpl
      have HPL0 := Lib.hid (show (t < k ∨ (n : Int) < t) → pl = 0 from fun h => by rw [← hpl, partL, if_neg (by rw [HN.out]; omega)]; rfl)
      have hRW := HRW.out
      have hAUE := Shut.mk hAU
      rw [hpl]
      clear hpl hAU
      by_cases t1 : t < k
      · have e0 := HPL0.out (.inl t1)
        subst e0
        go_wp2_with fail
        have hry := hry8
        have hbl := hbl8
        obtain rfl := hao
        have HXB := Lib.hid (fun (w' : World) (b : Below w8.heap.size w8 w') => HXW.out.below b)
        have HAB := Lib.hid (fun (w' : World) (b : Below w8.heap.size w8 w') => HAW.out.below b)
        have HC3 := Lib.hid (fun (w' : World) (b : Below w8.heap.size w8 w') => show w'.cell? ⟨g, 3, none⟩ = some (.slice (some ⟨bb, ob, none⟩) n ca) from by rw [← HN.out]; exact (HCW.out.below b).at 3)
        have HRY := Lib.hid (fun (w' : World) (b : Below w8.heap.size w8 w') => rangeAt_belowI hry b hbl)
        have HAF := Lib.hid (fun (w' : World) (b : Below w8.heap.size w8 w') => show Calls Tryz.prog 25 #[.pointer (some ⟨g, 0, none⟩), .int .i64 (k : Int)] w' fun r w'' => r = .returned (.agg (autV AZ)) ∧ Below w'.heap.size w' w'' from by
          have h := ref_auth16 k w' (HRW.out.below b) hk1 (by rw [HN.out]; exact hkn) (by have := HKH.out; rw [HN.out] at this; omega) HLL.out (by rw [HN.out]; omega) HND.out.2 (Nat.le_trans HSD.out (by decide)) H8.out
          rw [hAUE.out] at h
          exact h)
        have HIX := Lib.hid (index_ent bb ob n ca (k - 1) (by omega))
        clear hry hbl
        go_upto_region 17 with (fail)
        refine wp_region_class (fun w' => Below w8.heap.size w8 w') (by kernel_rfl) (by kernel_rfl) (Below.refl _ _).drew ?_
        repeat (first
          | go_big_quiet_skip
          | (go_big_quiet_want; refine quiet_load_cells 54 _ rfl gx (entV y) 54 _ rfl HXB.out Tryz.underlying54 rfl HSX.out ?_; go_big_quiet_on; simp only [Act.put, List.setIfInBounds_toArray, List.set_cons_zero, List.set_cons_succ])
          | (go_big_quiet_want; refine quiet_load_cells 45 _ rfl ga (autV AZ) 45 _ rfl HAB.out Tryz.underlying45 rfl HSA.out ?_; go_big_quiet_on; simp only [Act.put, List.setIfInBounds_toArray, List.set_cons_zero, List.set_cons_succ])
          | (go_big_quiet_want; refine quiet_load_cell 35 _ rfl ⟨g, 3, none⟩ _ rfl HC3.out Tryz.isAgg35 ?_; go_big_quiet_on; simp only [Act.put, List.setIfInBounds_toArray, List.set_cons_zero, List.set_cons_succ])
          | (go_big_quiet_want; refine quiet_bin .sub 3 _ _ _ rfl (.int .i64 (k : Int)) (.int .i64 1) _ rfl rfl (fun _ => rfl) HSU.out ?_; go_big_quiet_on; simp only [Act.put, List.setIfInBounds_toArray, List.set_cons_zero, List.set_cons_succ])
          | (go_big_quiet_want; refine quiet_indexAt 35 _ _ rfl _ _ _ rfl rfl HIX.out ?_; go_big_quiet_on; simp only [Act.put, List.setIfInBounds_toArray, List.set_cons_zero, List.set_cons_succ])
          | (go_big_quiet_want; refine quiet_load_row 54 _ rfl bb (ob + (k - 1) * 73) (entL y) _ rfl HRY.out Tryz.underlying54 rfl HSL.out ?_; go_big_quiet_on; simp only [Act.put, List.setIfInBounds_toArray, List.set_cons_zero, List.set_cons_succ])
          | (go_big_quiet_want; refine quiet_bin .eql 54 _ _ _ rfl (.agg (entV y)) (.agg (entV y)) _ rfl rfl (guard_ent _ (.inl rfl) _ _ _ _) HE1.out ?_; go_big_quiet_on; simp only [Act.put, List.setIfInBounds_toArray, List.set_cons_zero, List.set_cons_succ])
          | (go_big_quiet_want; refine quiet_bin .eql 45 _ _ _ rfl (.agg (autV AZ)) (.agg (autV AZ)) _ rfl rfl (guard_aut _ _ _ _) HE3.out ?_; go_big_quiet_on; simp only [Act.put, List.setIfInBounds_toArray, List.set_cons_zero, List.set_cons_succ])
          | go_big_quiet_step ((intro hs'; first
              | (go_at_call 25; exact (HAF.out _ hs').mono fun e w' h => ⟨h.1, hs'.trans (h.2.mono hs'.size)⟩)
              | rfl)))
        refine wpQuiet_nil ?_
        intro w9 hs9
        have HB9 := Lib.hid (HBW.out.trans (hs9.mono HBW.out.size))
        clear hs9
        go_wp2_with fail
        go_ret
        exact ⟨rfl, HB9.out⟩
      · by_cases t2 : (n : Int) < t
        · have e0 := HPL0.out (.inr t2)
          subst e0
          go_wp2_with fail
          have hry := hry8
          have hbl := hbl8
          obtain rfl := hao
          have HXB := Lib.hid (fun (w' : World) (b : Below w8.heap.size w8 w') => HXW.out.below b)
          have HAB := Lib.hid (fun (w' : World) (b : Below w8.heap.size w8 w') => HAW.out.below b)
          have HC3 := Lib.hid (fun (w' : World) (b : Below w8.heap.size w8 w') => show w'.cell? ⟨g, 3, none⟩ = some (.slice (some ⟨bb, ob, none⟩) n ca) from by rw [← HN.out]; exact (HCW.out.below b).at 3)
          have HRY := Lib.hid (fun (w' : World) (b : Below w8.heap.size w8 w') => rangeAt_belowI hry b hbl)
          have HAF := Lib.hid (fun (w' : World) (b : Below w8.heap.size w8 w') => show Calls Tryz.prog 25 #[.pointer (some ⟨g, 0, none⟩), .int .i64 (k : Int)] w' fun r w'' => r = .returned (.agg (autV AZ)) ∧ Below w'.heap.size w' w'' from by
            have h := ref_auth16 k w' (HRW.out.below b) hk1 (by rw [HN.out]; exact hkn) (by have := HKH.out; rw [HN.out] at this; omega) HLL.out (by rw [HN.out]; omega) HND.out.2 (Nat.le_trans HSD.out (by decide)) H8.out
            rw [hAUE.out] at h
            exact h)
          have HIX := Lib.hid (index_ent bb ob n ca (k - 1) (by omega))
          clear hry hbl
          go_upto_region 17 with (fail)
          refine wp_region_class (fun w' => Below w8.heap.size w8 w') (by kernel_rfl) (by kernel_rfl) (Below.refl _ _).drew ?_
          repeat (first
            | go_big_quiet_skip
            | (go_big_quiet_want; refine quiet_load_cells 54 _ rfl gx (entV y) 54 _ rfl HXB.out Tryz.underlying54 rfl HSX.out ?_; go_big_quiet_on; simp only [Act.put, List.setIfInBounds_toArray, List.set_cons_zero, List.set_cons_succ])
            | (go_big_quiet_want; refine quiet_load_cells 45 _ rfl ga (autV AZ) 45 _ rfl HAB.out Tryz.underlying45 rfl HSA.out ?_; go_big_quiet_on; simp only [Act.put, List.setIfInBounds_toArray, List.set_cons_zero, List.set_cons_succ])
            | (go_big_quiet_want; refine quiet_load_cell 35 _ rfl ⟨g, 3, none⟩ _ rfl HC3.out Tryz.isAgg35 ?_; go_big_quiet_on; simp only [Act.put, List.setIfInBounds_toArray, List.set_cons_zero, List.set_cons_succ])
            | (go_big_quiet_want; refine quiet_bin .sub 3 _ _ _ rfl (.int .i64 (k : Int)) (.int .i64 1) _ rfl rfl (fun _ => rfl) HSU.out ?_; go_big_quiet_on; simp only [Act.put, List.setIfInBounds_toArray, List.set_cons_zero, List.set_cons_succ])
            | (go_big_quiet_want; refine quiet_indexAt 35 _ _ rfl _ _ _ rfl rfl HIX.out ?_; go_big_quiet_on; simp only [Act.put, List.setIfInBounds_toArray, List.set_cons_zero, List.set_cons_succ])
            | (go_big_quiet_want; refine quiet_load_row 54 _ rfl bb (ob + (k - 1) * 73) (entL y) _ rfl HRY.out Tryz.underlying54 rfl HSL.out ?_; go_big_quiet_on; simp only [Act.put, List.setIfInBounds_toArray, List.set_cons_zero, List.set_cons_succ])
            | (go_big_quiet_want; refine quiet_bin .eql 54 _ _ _ rfl (.agg (entV y)) (.agg (entV y)) _ rfl rfl (guard_ent _ (.inl rfl) _ _ _ _) HE1.out ?_; go_big_quiet_on; simp only [Act.put, List.setIfInBounds_toArray, List.set_cons_zero, List.set_cons_succ])
            | (go_big_quiet_want; refine quiet_bin .eql 45 _ _ _ rfl (.agg (autV AZ)) (.agg (autV AZ)) _ rfl rfl (guard_aut _ _ _ _) HE3.out ?_; go_big_quiet_on; simp only [Act.put, List.setIfInBounds_toArray, List.set_cons_zero, List.set_cons_succ])
            | go_big_quiet_step ((intro hs'; first
                | (go_at_call 25; exact (HAF.out _ hs').mono fun e w' h => ⟨h.1, hs'.trans (h.2.mono hs'.size)⟩)
                | rfl)))
          refine wpQuiet_nil ?_
          intro w9 hs9
          have HB9 := Lib.hid (HBW.out.trans (hs9.mono HBW.out.size))
          clear hs9
          go_wp2_with fail
          go_ret
          exact ⟨rfl, HB9.out⟩
        · obtain ⟨m, rfl⟩ := Int.eq_ofNat_of_zero_le (show 0 ≤ t by omega)
          have HPQ := Shut.mk (show partL L k m = (L.drop (k - 1)).take (m - (k - 1)) by
            rw [partL, if_pos (by rw [HN.out]; omega)]
            congr 1
            · omega
            · congr 1
              omega)
          have HSB := Lib.hid (slice_ents_mid ao n ca (k - 1) m (by omega) (by omega) (by rw [← HN.out]; exact HCA.out))
          obtain ⟨ro, hro⟩ : ∃ r, (if ca = k - 1 then ao else ao.map (·.add ((k - 1) * 73))) = r := ⟨_, rfl⟩
          have HAS := Lib.hid (show EntsAt ro ((L.drop (k - 1)).take (m - (k - 1))) w8 from by
            have h := RAt.take (RAt.drop (c := ca) (j := k - 1) HATW.out (by rw [List.length_map]; exact HCA.out)) (m - (k - 1))
            rw [← List.map_drop, ← List.map_take, hro] at h
            exact h)
          rw [hro] at HSB
          have HPLN := Lib.hid (show pl = m - (k - 1) by rw [← HPL.out, HPQ.out, List.length_take, List.length_drop, HN.out]; omega)
          have HQLN := Shut.mk (show ((L.drop (k - 1)).take (m - (k - 1))).length = m - (k - 1) by rw [List.length_take, List.length_drop, HN.out]; omega)
          have HSM := Lib.hid (show Calls Tryz.prog 24 #[.slice ap pl cp, .slice ro (m - (k - 1)) (ca - (k - 1))] w8 fun e w' => e = .returned (.bool true) ∧ Below w8.heap.size w8 w' from by
            have h := ref_same15 (partL L k m) ((L.drop (k - 1)).take (m - (k - 1))) ap ro cp (ca - (k - 1)) w8 HPO.out (fun x hx => (HLL.out x (List.mem_of_mem_drop (List.mem_of_mem_take hx))).1.ok) HPA.out HAS.out (by rw [HPL.out, HPLN.out]; omega) (by rw [HQLN.out]; omega)
            rw [HPL.out, HQLN.out, decide_eq_true HPQ.out] at h
            exact h)
          have HAOE := Shut.mk hao
          clear hao
          have c38 : w8.cell? ⟨g, 3, none⟩ = some (.slice ao n ca) := by rw [← HN.out]; exact HCW.out.at 3
          obtain ⟨j, hj⟩ : ∃ j, k - 1 = j := ⟨_, rfl⟩
          have hsu : (k : Int) - 1 = (j : Int) := by omega
          rw [hj] at HSB HSM
          clear hj
          have tm1 : ¬ (m : Int) < (k : Int) := t1
          have tm2 : ¬ (n : Int) < (m : Int) := t2
          clear hro
          go_wp2_with (refine wpList_slice_mid16 rfl 35 _ _ _ rfl _ _ _ _ rfl rfl rfl HSB.out ?_)
          clear hsu
          refine HSM.out.mono ?_
          rintro e w8b ⟨rfl, hb⟩
          have hry := rangeAt_belowI hry8 hb hbl8
          have hbl := Nat.lt_of_lt_of_le hbl8 hb.size
          obtain ⟨w8, hw8⟩ : ∃ x, x = w8b := ⟨_, rfl⟩
          rw [← hw8] at hry hbl hb ⊢
          have HXW := Lib.hid (HXW.out.below hb)
          have HAW := Lib.hid (HAW.out.below hb)
          have HRW := Lib.hid (HRW.out.below hb)
          have HCW := Lib.hid (Cells.below HCW.out hb)
          have HBW := Lib.hid (HBW.out.trans (hb.mono HBW.out.size))
          clear hw8 hb c38 tm1 tm2
          go_wp2_with fail
          obtain rfl := HAOE.out
          have HXB := Lib.hid (fun (w' : World) (b : Below w8.heap.size w8 w') => HXW.out.below b)
          have HAB := Lib.hid (fun (w' : World) (b : Below w8.heap.size w8 w') => HAW.out.below b)
          have HC3 := Lib.hid (fun (w' : World) (b : Below w8.heap.size w8 w') => show w'.cell? ⟨g, 3, none⟩ = some (.slice (some ⟨bb, ob, none⟩) n ca) from by rw [← HN.out]; exact (HCW.out.below b).at 3)
          have HRY := Lib.hid (fun (w' : World) (b : Below w8.heap.size w8 w') => rangeAt_belowI hry b hbl)
          have HAF := Lib.hid (fun (w' : World) (b : Below w8.heap.size w8 w') => show Calls Tryz.prog 25 #[.pointer (some ⟨g, 0, none⟩), .int .i64 (k : Int)] w' fun r w'' => r = .returned (.agg (autV AZ)) ∧ Below w'.heap.size w' w'' from by
            have h := ref_auth16 k w' (HRW.out.below b) hk1 (by rw [HN.out]; exact hkn) (by have := HKH.out; rw [HN.out] at this; omega) HLL.out (by rw [HN.out]; omega) HND.out.2 (Nat.le_trans HSD.out (by decide)) H8.out
            rw [hAUE.out] at h
            exact h)
          have HIX := Lib.hid (index_ent bb ob n ca (k - 1) (by omega))
          clear hry hbl
          go_upto_region 17 with (fail)
          refine wp_region_class (fun w' => Below w8.heap.size w8 w') (by kernel_rfl) (by kernel_rfl) (Below.refl _ _).drew ?_
          repeat (first
            | go_big_quiet_skip
            | (go_big_quiet_want; refine quiet_load_cells 54 _ rfl gx (entV y) 54 _ rfl HXB.out Tryz.underlying54 rfl HSX.out ?_; go_big_quiet_on; simp only [Act.put, List.setIfInBounds_toArray, List.set_cons_zero, List.set_cons_succ])
            | (go_big_quiet_want; refine quiet_load_cells 45 _ rfl ga (autV AZ) 45 _ rfl HAB.out Tryz.underlying45 rfl HSA.out ?_; go_big_quiet_on; simp only [Act.put, List.setIfInBounds_toArray, List.set_cons_zero, List.set_cons_succ])
            | (go_big_quiet_want; refine quiet_load_cell 35 _ rfl ⟨g, 3, none⟩ _ rfl HC3.out Tryz.isAgg35 ?_; go_big_quiet_on; simp only [Act.put, List.setIfInBounds_toArray, List.set_cons_zero, List.set_cons_succ])
            | (go_big_quiet_want; refine quiet_bin .sub 3 _ _ _ rfl (.int .i64 (k : Int)) (.int .i64 1) _ rfl rfl (fun _ => rfl) HSU.out ?_; go_big_quiet_on; simp only [Act.put, List.setIfInBounds_toArray, List.set_cons_zero, List.set_cons_succ])
            | (go_big_quiet_want; refine quiet_indexAt 35 _ _ rfl _ _ _ rfl rfl HIX.out ?_; go_big_quiet_on; simp only [Act.put, List.setIfInBounds_toArray, List.set_cons_zero, List.set_cons_succ])
            | (go_big_quiet_want; refine quiet_load_row 54 _ rfl bb (ob + (k - 1) * 73) (entL y) _ rfl HRY.out Tryz.underlying54 rfl HSL.out ?_; go_big_quiet_on; simp only [Act.put, List.setIfInBounds_toArray, List.set_cons_zero, List.set_cons_succ])
            | (go_big_quiet_want; refine quiet_bin .eql 54 _ _ _ rfl (.agg (entV y)) (.agg (entV y)) _ rfl rfl (guard_ent _ (.inl rfl) _ _ _ _) HE1.out ?_; go_big_quiet_on; simp only [Act.put, List.setIfInBounds_toArray, List.set_cons_zero, List.set_cons_succ])
            | (go_big_quiet_want; refine quiet_bin .eql 45 _ _ _ rfl (.agg (autV AZ)) (.agg (autV AZ)) _ rfl rfl (guard_aut _ _ _ _) HE3.out ?_; go_big_quiet_on; simp only [Act.put, List.setIfInBounds_toArray, List.set_cons_zero, List.set_cons_succ])
            | go_big_quiet_step ((intro hs'; first
                | (go_at_call 25; exact (HAF.out _ hs').mono fun e w' h => ⟨h.1, hs'.trans (h.2.mono hs'.size)⟩)
                | rfl)))
          refine wpQuiet_nil ?_
          intro w9 hs9
          have HB9 := Lib.hid (HBW.out.trans (hs9.mono HBW.out.size))
          clear hs9
          go_wp2_with fail
          go_ret
          exact ⟨rfl, HB9.out⟩
end Go.Proofs.YtpfhlhcnmeodbaaGreatDoor
namespace Go.Proofs.YtpfhlhcnmeodbaaGreatDoor
open Go.RowKit Go.BigFrame
def NodesAt (ao : Option Addr) (N : List NodeN) (w : World) : Prop := RAt 17 ao (N.map nodL) w
theorem index_node (b o n c j : Nat) (hj : j < n) (w : World) : (Instr.indexAt 50 (.slice (some ⟨b, o, none⟩) n c) (.int .i64 (j : Int))).run Tryz.prog w = .ok (.pointer (some ⟨b, o + j * 17, none⟩)) w := by
  have h1 : (j : Int) < (n : Int) := by omega
  go_simp
end Go.Proofs.YtpfhlhcnmeodbaaGreatDoor
namespace Go.Proofs.YtpfhlhcnmeodbaaGreatDoor
open Go.RowKit Go.BigFrame
set_option maxHeartbeats 4000000 in
set_option maxRecDepth 100000 in
theorem dev_elems (s : List UInt8) (k : Nat) (w : World) (hs : s.length = 16 * k) (hk8 : k ≤ 1000000) :
    Calls Tryz.prog 54 #[.string ⟨s.toArray⟩] w fun e w' => (∃ v, e = .returned v ∧ OwnE w.heap.size 29 v (cutE s k) w') ∧ Below w.heap.size w w' := by
  obtain ⟨i0, hi, hz0, hz1, hz2⟩ := info_parts Tryz.infoE16
  have HIF := Lib.hid hi
  have HZ0 := Lib.hid hz0
  have HZ1 := Lib.hid hz1
  have HZ2 := Lib.hid hz2
  have HS := Shut.mk hs
  have hq : (s.length : Int) / 16 = (k : Int) := by omega
  have HQ := Lib.hid hq
  clear hi hz0 hz1 hz2 hs
  go_enter Tryz.func54, Tryz.ntmps54
  go_wp2_with (at_make; refine wpList_make_full _ rfl _ _ 34 rfl w.heap.size 29 i0 _ 16 Tryz.underlying34 HIF.out HZ0.out HZ1.out .i64 .i64 _ _ k rfl rfl (by first | rfl | exact HQ.out) (by first | rfl | exact HQ.out) (by rw [HZ2.out]; omega) (by unfold maxLen; omega) (Nat.le_refl _) ?_)
  intro w2 ho2 hg2
  have hb2 : Below w.heap.size w w2 := (Below.refl w.heap.size w).grown hg2 (Nat.le_refl _) (by intro g hg; cases hg)
  have HO2 := Lib.hid (show OwnE w.heap.size 29 (.slice (some ⟨w.heap.size, 0, none⟩) k k) (partC s k 0) w2 by rw [partC_zero]; exact OwnE.made ho2)
  have HB2 := Lib.hid hb2
  obtain ⟨g, hg⟩ : ∃ g, g = w.heap.size := ⟨_, rfl⟩
  rw [← hg] at HO2 ⊢
  have HGW := Lib.hid (show w.heap.size ≤ g by omega)
  have HGE := Shut.mk hg
  clear ho2 hg2 hb2 hg hq
  go_wp2_with fail
  go_loopw [11] (fun n wq => ∃ i : Nat, i ≤ k ∧ n = .int .i64 i ∧ OwnE g 29 (.slice (some ⟨g, 0, none⟩) k k) (partC s k i) wq ∧ Below w.heap.size w wq) (fun n _ => k - (intOf n).toNat)
  case atStart => exact ⟨0, by omega, rfl, HO2.out, HB2.out⟩
  case round =>
    clear HO2 HB2
    obtain ⟨i, hik, rfl, ho, hb⟩ := hrel
    have HO := Lib.hid ho
    have HB := Lib.hid hb
    clear ho hb
    by_cases hli : i < k
    · have hli2 : (i : Int) < (k : Int) := by omega
      have hlen := HS.out
      have hbd : (i : Int) * 16 ≤ (s.length : Int) := by omega
      have hcut : (⟨s.toArray⟩ : ByteArray).extract (i * 16) s.length = ⟨(s.drop (i * 16)).toArray⟩ := extract_tail s (i * 16)
      have hsl : (⟨s.toArray⟩ : ByteArray).size = s.length := by simp [ByteArray.size]
      have HPS := Shut.mk (partC_set s hli)
      have HPE := Lib.hid (partC_ok (s := s) (k := k) (i := i) (by omega))
      have HPL := Shut.mk (partC_len s (Nat.le_of_lt hli))
      have H16 := Lib.hid (show 16 ≤ (s.drop (i * 16)).length by rw [List.length_drop]; omega)
      have HPT := Shut.mk (show byteNs ((s.drop (i * 16)).take 16) = byteNs (part s i) by rw [part, Nat.mul_comm 16 i])
      obtain ⟨P0, hP0⟩ : ∃ P0, partC s k i = P0 := ⟨_, rfl⟩
      rw [hP0] at HPS HPE HPL HO
      clear hP0 hlen
      go_upto_region 5 with (fail)
      refine wp_region_class_tail (fun w' => Below wr.heap.size wr w') 8 (by kernel_rfl) (by kernel_rfl) (Below.refl _ _).drew ?_
      simp only [List.take_succ_cons, List.take_zero, List.drop_succ_cons, List.drop_zero]
      repeat go_big_quiet_step ((intro hs'; rfl))
      refine wpQuiet_nil ?_
      intro w4 hs4
      rw [hcut]
      have HO4 := Lib.hid (HO.out.below hs4)
      have HB4 := Lib.hid (HB.out.trans (hs4.mono HB.out.size))
      obtain ⟨S', hS'⟩ : ∃ S', s.drop (i * 16) = S' := ⟨_, rfl⟩
      rw [hS'] at H16 HPT ⊢
      clear hs4 HO HB hcut hsl hbd hS'
      go_wp2_with (refine wpList_copy_elem rfl (.tmp 17) (.tmp 21) 97 9 rfl 5 Tryz.underlying97 (by kernel_rfl) g g k k i (i * 16) 16 29 P0 S' HPL.out.symm (Nat.mul_comm _ _) rfl rfl HO4.out HPE.out hli H16.out ?_)
      intro w5 ho5 hb5
      have HO5 := Lib.hid (show OwnE g 29 (.slice (some ⟨g, 0, none⟩) k k) (partC s k (i + 1)) w5 by rw [← HPS.out, ← HPT.out]; exact ho5.out)
      have HB5 := Lib.hid (show Below w.heap.size w w5 from But.toBelow HB4.out hb5.out HGW.out HB4.out.size)
      clear ho5 hb5 HO4 HB4 HPS HPE HPL HPT
      go_wp2_with fail
      exact ⟨⟨i + 1, by omega, by go_num, HO5.out, HB5.out⟩, by simp [intOf]; omega⟩
    · obtain rfl : i = k := by omega
      have hnw : ¬ (i : Int) < (i : Int) := by omega
      rw [partC_full] at HO
      have HOr := Lib.hid (HO.out.mono HGW.out)
      clear HO
      go_wp2_with fail
      go_ret
      exact ⟨⟨_, rfl, HOr.out⟩, HB.out⟩
def RowE (s : Nat → Bool) (V : Nat → Value) (i n : Nat) (L : List (List Nat)) (w : World) : Prop := s i = true → ∃ ao c, V i = .slice ao n c ∧ EAt ao L w
theorem RowE.none {V : Nat → Value} {i n : Nat} {L : List (List Nat)} {w : World} : RowE (fun _ => false) V i n L w := fun h => by cases h
theorem RowE.ne {s : Nat → Bool} {V : Nat → Value} {i j n : Nat} {L : List (List Nat)} {w w' : World} {u : Value} (h : RowE s V j n L w) (hne : j ≠ i) (hb : Below w.heap.size w w') : RowE (fun j => s j || j == i) (upd V i u) j n L w' := fun hs => by
  obtain ⟨ao, c, e, hk⟩ := h (seen_ne hne hs)
  exact ⟨ao, c, by rw [upd_ne V u hne]; exact e, hk.below hb⟩
theorem RowE.same {s : Nat → Bool} {V : Nat → Value} {i n : Nat} {L : List (List Nat)} {w : World} {ao : Option Addr} {c : Nat} (h : EAt ao L w) : RowE (fun j => s j || j == i) (upd V i (.slice ao n c)) i n L w :=
  fun _ => ⟨ao, c, upd_same _ _ _, h⟩
end Go.Proofs.YtpfhlhcnmeodbaaGreatDoor
namespace Go.Proofs.YtpfhlhcnmeodbaaGreatDoor
open Go.RowKit Go.BigFrame
set_option maxHeartbeats 4000000 in
set_option maxRecDepth 100000 in
theorem dev_climb (x : List Nat) (a : Int) (p : List (List Nat)) (ao : Option Addr) (cap : Nat) (w : World) (hx : x.length = 16) (lx : ∀ y ∈ x, y < 256) (a0 : -9223372036854775808 ≤ a) (a1 : a ≤ 9223372036854775807)
    (hp : Elems p) (hE : EAt ao p w) (hn : p.length ≤ 9000000000000) (hkat : KAt w) :
    Calls Tryz.prog 53 #[.agg (nums .u8 x).toArray, .int .i64 a, .slice ao p.length cap] w fun e w' => e = .returned (.agg (nums .u8 (climbN x a p p.length)).toArray) ∧ Below w.heap.size w w' := by
  have HX := Lib.hid hx
  have LX := Lib.hid lx
  have HE := Lib.hid hE
  have EP := Lib.hid hp
  have HK := Lib.hid hkat
  have HAB := Lib.hid (fun k => half_bounds a0 a1 k)
  have HAL := Lib.hid (show ∀ w : World, (Instr.alloc 29 true (.tuple #[])).run Tryz.prog w = .ok (.pointer (some ⟨w.heap.size, 0, none⟩)) (w.alloc (.cells (nums .u8 (List.replicate 16 0)).toArray 29)) from fun w => by kernel_rfl)
  have HIX := Lib.hid (show (Tryz.prog.info? 29).map (·.size) = some x.length by rw [hx]; exact Tryz.infoE)
  have HLX := Lib.hid (show (List.replicate 16 0).length = x.length by rw [hx]; rfl)
  clear hx lx hE hp a0 a1 hkat
  go_enter Tryz.func53, Tryz.ntmps53
  go_upto_region 1 with (fail)
  change Code.wp _ _ _ _ ((w.alloc (.cells (nums .u8 x).toArray 29)).alloc (.cells (nums .u8 (List.replicate 16 0)).toArray 29))
  obtain ⟨w1, hw1⟩ : ∃ x', x' = (w.alloc (.cells (nums .u8 x).toArray 29)).alloc (.cells (nums .u8 (List.replicate 16 0)).toArray 29) := ⟨_, rfl⟩
  rw [← hw1]
  have h3 : Blk w.heap.size 29 .u8 x w1 ∧ Blk (w.heap.size + 1) 29 .u8 (List.replicate 16 0) w1 ∧ Below w.heap.size w w1 := by rw [hw1]; exact two_new w _ _ _ _
  obtain ⟨hl1, hr1, hb1⟩ := h3
  obtain ⟨gr, hgr⟩ : ∃ g, g = w.heap.size + 1 := ⟨_, rfl⟩
  obtain ⟨gl, hgl⟩ : ∃ g, g = w.heap.size := ⟨_, rfl⟩
  rw [← hgr] at hr1 ⊢
  rw [← hgl] at hl1 ⊢
  have HGR := Lib.hid (show w.heap.size ≤ gr by omega)
  have HL1 := Lib.hid hl1
  have HR1 := Lib.hid hr1
  have HB1 := Lib.hid hb1
  have HX8 := Lib.hid (show Blk w1.heap.size 29 .u8 (List.replicate 16 0) (w1.alloc (.cells (nums .u8 (List.replicate 16 0)).toArray 29)) from heap_alloc_new w1 _)
  clear hl1 hr1 hb1 hw1 hgr hgl
  go_wp2_with (first
    | (refine wpList_load_nums rfl 29 _ rfl gl .u8 _ 29 _ rfl HL1.out Tryz.underlying29 rfl HIX.out ?_)
    | (refine wpList_store_nums rfl 29 _ _ rfl rfl w1.heap.size .u8 _ x 29 rfl rfl HX8.out HIX.out HLX.out ?_))
  intro w2 hc' hb'
  have hb2 : Below w1.heap.size w1 w2 := But.toBelow ((Below.refl _ w1).alloc (Nat.le_refl _) _) hb'.out (Nat.le_refl _) (by simp)
  have HX2 := Lib.hid (show Blk w1.heap.size 29 .u8 x w2 from hc'.out)
  have HR2 := Lib.hid (HR1.out.below hb2)
  have HB2 := Lib.hid (HB1.out.trans (hb2.mono HB1.out.size))
  have HGX := Lib.hid (show w.heap.size ≤ w1.heap.size from HB1.out.size)
  have HNE := Lib.hid (show w1.heap.size ≠ gr from Ne.symm (Nat.ne_of_lt HR1.out.lt))
  obtain ⟨gx, hgx⟩ : ∃ g, g = w1.heap.size := ⟨_, rfl⟩
  rw [← hgx] at HX2 HGX HNE ⊢
  clear hc' hb' hb2 hgx HL1 HR1 HB1 HX8 HLX HIX
  go_wp2_with fail
  go_loopw [1, 15] (fun c n wq => ∃ k : Nat, k ≤ p.length ∧ n = .int .i64 k ∧ c = .int .i64 (a / 2 ^ k) ∧ Blk gx 29 .u8 (climbN x a p k) wq ∧ Blk gr 29 .u8 (List.replicate 16 0) wq ∧ Below w.heap.size w wq) (fun _ n _ => p.length - (intOf n).toNat)
  case atStart => exact ⟨0, by omega, rfl, by simp, HX2.out, HR2.out, HB2.out⟩
  case round =>
    clear HX2 HR2 HB2
    obtain ⟨k, hk, rfl, rfl, hxk, hrk, hb⟩ := hrel
    have HXK := Lib.hid hxk
    have HRK := Lib.hid hrk
    have HB := Lib.hid hb
    have HCL := Lib.hid (climbN_len HX.out a p k)
    have HCT := Lib.hid (climbN_lt LX.out a p k)
    by_cases hlk : k < p.length
    · obtain ⟨b, o, rfl, hbb⟩ := HE.out.some (by omega)
      have HY := Lib.hid (rangeAt_below (HE.out.get hlk) hb hbb)
      obtain ⟨hy1, hy2⟩ := EP.out.getD hlk
      obtain ⟨hc0, hc1⟩ := HAB.out k
      have HNX := Shut.mk (climbN_next x a p k)
      have HHN := Shut.mk (half_next a k)
      obtain ⟨c, hc⟩ : ∃ c, a / 2 ^ k = c := ⟨_, rfl⟩
      obtain ⟨y, hy⟩ : ∃ y, p.getD k [] = y := ⟨_, rfl⟩
      obtain ⟨z, hz⟩ : ∃ z, climbN x a p k = z := ⟨_, rfl⟩
      rw [hc] at hc0 hc1 HNX HHN ⊢
      rw [hy] at hy1 hy2 HY HNX
      rw [hz] at HXK HCL HCT HNX
      have HY1 := Lib.hid hy1
      have HY2 := Lib.hid hy2
      clear hxk hrk hb hc hy hz hy1 hy2
      have HIY := Lib.hid (show (Tryz.prog.info? 29).map (·.size) = some y.length by rw [HY1.out]; exact Tryz.infoE)
      have HIZ := Lib.hid (show (Tryz.prog.info? 29).map (·.size) = some z.length by rw [HCL.out]; exact Tryz.infoE)
      have HLY := Lib.hid (show (List.replicate 16 0).length = y.length by rw [HY1.out]; rfl)
      have HLZ := Lib.hid (show (List.replicate 16 0).length = z.length by rw [HCL.out]; rfl)
      have HX8 := Lib.hid (show Blk wr.heap.size 29 .u8 (List.replicate 16 0) (wr.alloc (.cells (nums .u8 (List.replicate 16 0)).toArray 29)) from heap_alloc_new wr _)
      go_wp2_with (first
        | (refine wpList_load_elem rfl 29 _ rfl b (o + k * 16) y _ rfl HY.out Tryz.underlying29 rfl HIY.out ?_)
        | (refine wpList_store_nums rfl 29 _ _ rfl rfl wr.heap.size .u8 _ y 29 rfl rfl HX8.out HIY.out HLY.out ?_))
      intro w2 hc' hb'
      have hb2 : Below wr.heap.size wr w2 := But.toBelow ((Below.refl _ wr).alloc (Nat.le_refl _) _) hb'.out (Nat.le_refl _) (by simp)
      have HY5 := Lib.hid (show Blk wr.heap.size 29 .u8 y w2 from hc'.out)
      have HX5 := Lib.hid (HXK.out.below hb2)
      have HR5 := Lib.hid (HRK.out.below hb2)
      have HB5 := Lib.hid (HB.out.trans (hb2.mono HB.out.size))
      obtain ⟨gy, hgy⟩ : ∃ g, g = wr.heap.size := ⟨_, rfl⟩
      have HNY := Lib.hid (show gy < w2.heap.size from by rw [hgy]; exact HY5.out.lt)
      rw [← hgy] at HY5 ⊢
      clear hc' hb' hb2 hgy HXK HRK HB HX8
      go_upto_region 5 with (fail)
      refine wp_region_free 5 (fun s V w' => Below w2.heap.size w2 w' ∧ Val s V 0 (.agg (nums .u8 z).toArray) ∧ Val s V 1 (.agg (nums .u8 y).toArray) ∧ Put s V w2.heap.size 2 4 29 .u8 (List.replicate 16 0) z w' ∧ New s V w2.heap.size 3 29 .u8 (List.replicate 16 0) w' ∧ Two s V 2 3 ∧ Late s 2 4) (fun | 0 => u20 | 1 => u21 | 2 => u10 | 3 => u11 | _ => undef) (by kernel_rfl) (by kernel_rfl) (by kernel_rfl) rfl ⟨(Below.refl _ _).drew, Val.none, Val.none, Put.none, New.none, Two.none, Late.none⟩ ?_ ?_
      · simp only [List.take_succ_cons, List.take_zero, putAll, Nat.zero_add, Nat.reduceAdd, Act.put, List.setIfInBounds_toArray, List.set_cons_zero, List.set_cons_succ]
        refine FreeSteps.cons ?_ (FreeSteps.cons ?_ (FreeSteps.cons ?_ (FreeSteps.cons ?_ (FreeSteps.cons ?_ FreeSteps.nil))))
        all_goals (refine FreeStep.fresh rfl ?_; rintro s V wq hr hu ⟨hB, h0, h1, h2, h3, h4, hl⟩ K hK)
        · exact op_load_nums 29 (.tmp 7) rfl gx .u8 z 29 _ rfl (HX5.out.below hB) Tryz.underlying29 rfl HIZ.out (hK _ _ ⟨hB, .same, h1.ne (by decide), h2.ne (by decide) (by decide) (Below.refl _ _), h3.ne (by decide) (Below.refl _ _), h4.ne (by decide) (by decide), hl.ne (by decide)⟩)
        · exact op_load_nums 29 (.tmp 9) rfl gy .u8 y 29 _ rfl (HY5.out.below hB) Tryz.underlying29 rfl HIY.out (hK _ _ ⟨hB, h0.ne (by decide), .same, h2.ne (by decide) (by decide) (Below.refl _ _), h3.ne (by decide) (Below.refl _ _), h4.ne (by decide) (by decide), hl.ne (by decide)⟩)
        · have hb : Below wq.heap.size wq (wq.alloc (.cells (nums .u8 (List.replicate 16 0)).toArray 29)) := (Below.refl _ _).alloc (Nat.le_refl _) _
          exact op_alloc 29 rfl _ HAL.out (hK _ _ ⟨hB.trans (hb.mono hB.size), h0.ne (by decide), h1.ne (by decide), .made hB.size (hl.not hu) (by decide), h3.ne (by decide) hb, .left h3 (by decide), hl.ne (by decide)⟩)
        · have hb : Below wq.heap.size wq (wq.alloc (.cells (nums .u8 (List.replicate 16 0)).toArray 29)) := (Below.refl _ _).alloc (Nat.le_refl _) _
          exact op_alloc 29 rfl _ HAL.out (hK _ _ ⟨hB.trans (hb.mono hB.size), h0.ne (by decide), h1.ne (by decide), h2.ne (by decide) (by decide) hb, .same hB.size, Two.right (l := if s 4 = true then z else List.replicate 16 0) h2 (by decide), hl.ne (by decide)⟩)
        · have s2 := hr { on := 2, ground := .data } (by simp) rfl
          obtain ⟨g, e2, hg, hk2⟩ := h2 s2
          rw [if_neg (by rw [hu]; decide)] at hk2
          refine op_store_nums 29 (.tmp 10) (.tmp 20) rfl g .u8 _ z 29 e2 (h0 (hr { on := 0, ground := .data } (by simp) rfl)) hk2 HIZ.out HLZ.out ?_
          intro w' hc hb
          refine hK _ _ ⟨But.toBelow hB hb hg hB.size, h0.ne (by decide), h1.ne (by decide), .stored e2 hg (by decide) hc, ?_, h4.ne (by decide) (by decide), .same s2⟩
          intro hs
          have s3 := seen_ne (by decide) hs
          obtain ⟨g3, e3, hg3, hk3⟩ := h3 s3
          exact ⟨g3, by rw [upd_ne _ _ (by decide)]; exact e3, hg3, hk3.but hb (fun e => h4 s2 s3 (by rw [e2, e3, e]))⟩
      · rintro s V w4 hall ⟨hB, h0, h1, h2, h3, h4, hl⟩
        have v0 := h0 (hall 0 (by decide))
        have v1 := h1 (hall 1 (by decide))
        obtain ⟨ga, v2, hga, ha⟩ := h2 (hall 2 (by decide))
        rw [if_pos (hall 4 (by decide))] at ha
        obtain ⟨gb, v3, hgb, hb⟩ := h3 (hall 3 (by decide))
        have hne : ga ≠ gb := fun e => h4 (hall 2 (by decide)) (hall 3 (by decide)) (by rw [v2, v3, e])
        simp only [List.take_succ_cons, List.take_zero, List.drop_succ_cons, List.drop_zero, putAll, Nat.zero_add, Nat.reduceAdd, v0, v1, v2, v3, Act.put, List.setIfInBounds_toArray, List.set_cons_zero, List.set_cons_succ]
        clear h0 h1 h2 h3 h4 hl v0 v1 v2 v3 hall
        have HXL := Lib.hid HX5.out.lt
        have HRL := Lib.hid HR5.out.lt
        have HBL := Lib.hid HB5.out.size
        have HX7 := Lib.hid (HX5.out.below hB)
        have HY7 := Lib.hid (HY5.out.below hB)
        have HR7 := Lib.hid (HR5.out.below hB)
        have HB7 := Lib.hid (HB5.out.trans (hB.mono HB5.out.size))
        have HA7 := Lib.hid ha
        have HZ7 := Lib.hid hb
        have HAZ := Lib.hid hne
        have HGA := Lib.hid hga
        have HGB := Lib.hid hgb
        clear hB ha hb hne hga hgb HX5 HY5 HR5 HB5
        go_wp2_with (refine wpList_store_nums rfl 29 _ _ rfl rfl gb .u8 _ y 29 rfl rfl HZ7.out HIY.out HLY.out ?_)
        intro w5 hc hb
        have HX8 := Lib.hid (HX7.out.but hb.out (by have := HGB.out; have := HXL.out; omega))
        have HY8 := Lib.hid (HY7.out.but hb.out (by have := HGB.out; have := HNY.out; omega))
        have HR8 := Lib.hid (HR7.out.but hb.out (by have := HGB.out; have := HRL.out; omega))
        have HB8 := Lib.hid (show Below w.heap.size w w5 from But.toBelow HB7.out hb.out (by have := HGB.out; have := HBL.out; omega) HB7.out.size)
        have HA8 := Lib.hid (HA7.out.but hb.out HAZ.out)
        have HZ8 := Lib.hid (show Blk gb 29 .u8 y w5 from hc.out)
        clear hc hb HX7 HY7 HR7 HB7 HZ7 HA7
        have HBIT := Shut.mk (bit_one c)
        by_cases hpar : c % 2 = 0
        · have h4 : bits .and .i64 c 1 = 0 := HBIT.out.trans hpar
          clear HBIT
          have HST := Shut.mk (show stepN z y c k = upN z y ((k + 1 : Nat) : Int) (c / 2) by unfold stepN; rw [if_pos hpar])
          go_wp2_with (first
            | (refine wpList_load_nums rfl 29 _ rfl ga .u8 _ 29 _ rfl HA8.out Tryz.underlying29 rfl HIZ.out ?_)
            | (refine wpList_load_nums rfl 29 _ rfl gb .u8 _ 29 _ rfl HZ8.out Tryz.underlying29 rfl HIY.out ?_))
          refine (dev_up z y ((k + 1 : Nat) : Int) (c / 2) _ HCL.out HCT.out HY1.out HY2.out (by omega) (by omega) (by omega) (by omega) (HK.out.below HB8.out)).mono ?_
          rintro e w8 ⟨rfl, hb8⟩
          have HX11 := Lib.hid (HX8.out.below hb8)
          have HR11 := Lib.hid (HR8.out.below hb8)
          have HB11 := Lib.hid (HB8.out.trans (hb8.mono HB8.out.size))
          clear hb8 HX8 HR8 HB8 HA8 HZ8
          have HUL0 := upN_len z y ((k + 1 : Nat) : Int) (c / 2)
          obtain ⟨U, hU⟩ : ∃ U, upN z y ((k + 1 : Nat) : Int) (c / 2) = U := ⟨_, rfl⟩
          rw [hU] at HST HUL0 ⊢
          have HUL := Lib.hid HUL0
          have HCN := Shut.mk (show climbN x a p (k + 1) = U from HNX.out.trans HST.out)
          clear hU HUL0 HST HNX
          have HIU := Lib.hid (show (Tryz.prog.info? 29).map (·.size) = some U.length by rw [HUL.out]; exact Tryz.infoE)
          have HLU := Lib.hid (show z.length = U.length by rw [HUL.out, HCL.out])
          go_wp2_with (refine wpList_store_nums rfl 29 _ _ rfl rfl gx .u8 _ U 29 rfl rfl HX11.out HIU.out HLU.out ?_)
          intro w9 hc' hb'
          have HX12 := Lib.hid (show Blk gx 29 .u8 U w9 from hc'.out)
          have HR12 := Lib.hid (HR11.out.but hb'.out (Ne.symm HNE.out))
          have HB12 := Lib.hid (show Below w.heap.size w w9 from But.toBelow HB11.out hb'.out HGX.out HB11.out.size)
          clear hc' hb'
          go_wp2_with fail
          exact ⟨⟨k + 1, by omega, by go_num, by rw [← HHN.out], by rw [HCN.out]; exact HX12.out, HR12.out, HB12.out⟩, by simp [intOf]; omega⟩
        · have h4 : bits .and .i64 c 1 = 1 := HBIT.out.trans (by omega)
          clear HBIT
          go_upto_region 7 with (fail)
          have HLZY := Lib.hid (show y.length = z.length by rw [HY1.out, HCL.out])
          have NY := Lib.hid (show gy ≠ ga by have := HGA.out; have := HNY.out; omega)
          have NX := Lib.hid (show gx ≠ ga by have := HGA.out; have := HXL.out; omega)
          have NR := Lib.hid (show gr ≠ ga by have := HGA.out; have := HRL.out; omega)
          refine wp_region_free 3 (fun s V w' => But ga w5 w' ∧ Val s V 0 (.agg (nums .u8 y).toArray) ∧ Val s V 1 (.agg (nums .u8 z).toArray) ∧ ∃ q, Blk ga 29 .u8 q w' ∧ q.length = 16 ∧ (s 2 = true → q = y)) (fun | 0 => u25 | 1 => u26 | _ => undef) (by kernel_rfl) (by kernel_rfl) (by kernel_rfl) rfl ⟨(But.refl _ _).drew, Val.none, Val.none, z, HA8.out, HCL.out, fun h => by cases h⟩ ?_ ?_
          · simp only [List.take_succ_cons, List.take_zero, putAll, Nat.zero_add, Act.put, List.setIfInBounds_toArray, List.set_cons_zero, List.set_cons_succ]
            refine FreeSteps.cons ?_ (FreeSteps.cons ?_ (FreeSteps.cons ?_ FreeSteps.nil))
            all_goals (refine FreeStep.plain rfl ?_; rintro s V wq hr ⟨hB, h0, h1, q, hq, hql, hqe⟩ K hK)
            · exact op_load_nums 29 (.tmp 9) rfl gy .u8 y 29 _ rfl (HY8.out.but hB NY.out) Tryz.underlying29 rfl HIY.out (hK _ _ ⟨hB, .same, h1.ne (by decide), q, hq, hql, fun h => hqe (seen_ne (by decide) h)⟩)
            · exact op_load_nums 29 (.tmp 7) rfl gx .u8 z 29 _ rfl (HX8.out.but hB NX.out) Tryz.underlying29 rfl HIZ.out (hK _ _ ⟨hB, h0.ne (by decide), .same, q, hq, hql, fun h => hqe (seen_ne (by decide) h)⟩)
            · refine op_store_nums 29 (.tmp 10) (.tmp 25) rfl ga .u8 q y 29 rfl (h0 (hr { on := 0, ground := .data } (by simp) rfl)) hq HIY.out (by rw [hql, HY1.out]) ?_
              intro w' hc hb
              exact hK _ _ ⟨hB.trans hb, h0.ne (by decide), h1.ne (by decide), y, hc, HY1.out, fun _ => rfl⟩
          rintro s V w7 hall ⟨hB, h0, h1, q, hq, hql, hqe⟩
          have v0 := h0 (hall 0 (by decide))
          have v1 := h1 (hall 1 (by decide))
          rw [hqe (hall 2 (by decide))] at hq
          simp only [List.take_succ_cons, List.take_zero, List.drop_succ_cons, List.drop_zero, putAll, Nat.zero_add, v0, v1, Act.put, List.setIfInBounds_toArray, List.set_cons_zero, List.set_cons_succ]
          clear h0 h1 v0 v1 hall
          have HX10 := Lib.hid (HX8.out.but hB NX.out)
          have HR10 := Lib.hid (HR8.out.but hB NR.out)
          have HZ10 := Lib.hid (HZ8.out.but hB (Ne.symm HAZ.out))
          have HA10 := Lib.hid (show Blk ga 29 .u8 y w7 from hq)
          have HB10 := Lib.hid (show Below w.heap.size w w7 from But.toBelow HB8.out hB (by have := HGA.out; have := HBL.out; omega) HB8.out.size)
          clear hB hq hql hqe HX8 HY8 HR8 HA8 HZ8 HB8 NY NX NR
          go_wp2_with (refine wpList_store_nums rfl 29 _ _ rfl rfl gb .u8 _ z 29 rfl rfl HZ10.out HIZ.out HLZY.out ?_)
          intro w8 hc hb
          have HX13 := Lib.hid (HX10.out.but hb.out (by have := HGB.out; have := HXL.out; omega))
          have HR13 := Lib.hid (HR10.out.but hb.out (by have := HGB.out; have := HRL.out; omega))
          have HB13 := Lib.hid (show Below w.heap.size w w8 from But.toBelow HB10.out hb.out (by have := HGB.out; have := HBL.out; omega) HB10.out.size)
          have HA13 := Lib.hid (HA10.out.but hb.out HAZ.out)
          have HZ13 := Lib.hid (show Blk gb 29 .u8 z w8 from hc.out)
          clear hc hb HX10 HR10 HB10 HZ10 HA10
          have HST := Shut.mk (show stepN z y c k = upN y z ((k + 1 : Nat) : Int) (c / 2) by unfold stepN; rw [if_neg hpar])
          go_wp2_with (first
            | (refine wpList_load_nums rfl 29 _ rfl ga .u8 _ 29 _ rfl HA13.out Tryz.underlying29 rfl HIY.out ?_)
            | (refine wpList_load_nums rfl 29 _ rfl gb .u8 _ 29 _ rfl HZ13.out Tryz.underlying29 rfl HIZ.out ?_))
          refine (dev_up y z ((k + 1 : Nat) : Int) (c / 2) _ HY1.out HY2.out HCL.out HCT.out (by omega) (by omega) (by omega) (by omega) (HK.out.below HB13.out)).mono ?_
          rintro e w8 ⟨rfl, hb8⟩
          have HX11 := Lib.hid (HX13.out.below hb8)
          have HR11 := Lib.hid (HR13.out.below hb8)
          have HB11 := Lib.hid (HB13.out.trans (hb8.mono HB13.out.size))
          clear hb8 HX13 HR13 HB13 HA13 HZ13
          have HUL0 := upN_len y z ((k + 1 : Nat) : Int) (c / 2)
          obtain ⟨U, hU⟩ : ∃ U, upN y z ((k + 1 : Nat) : Int) (c / 2) = U := ⟨_, rfl⟩
          rw [hU] at HST HUL0 ⊢
          have HUL := Lib.hid HUL0
          have HCN := Shut.mk (show climbN x a p (k + 1) = U from HNX.out.trans HST.out)
          clear hU HUL0 HST HNX
          have HIU := Lib.hid (show (Tryz.prog.info? 29).map (·.size) = some U.length by rw [HUL.out]; exact Tryz.infoE)
          have HLU := Lib.hid (show z.length = U.length by rw [HUL.out, HCL.out])
          go_wp2_with (refine wpList_store_nums rfl 29 _ _ rfl rfl gx .u8 _ U 29 rfl rfl HX11.out HIU.out HLU.out ?_)
          intro w9 hc' hb'
          have HX12 := Lib.hid (show Blk gx 29 .u8 U w9 from hc'.out)
          have HR12 := Lib.hid (HR11.out.but hb'.out (Ne.symm HNE.out))
          have HB12 := Lib.hid (show Below w.heap.size w w9 from But.toBelow HB11.out hb'.out HGX.out HB11.out.size)
          clear hc' hb'
          go_wp2_with fail
          exact ⟨⟨k + 1, by omega, by go_num, by rw [← HHN.out], by rw [HCN.out]; exact HX12.out, HR12.out, HB12.out⟩, by simp [intOf]; omega⟩
    · obtain rfl : k = p.length := by omega
      have HIZ := Lib.hid (show (Tryz.prog.info? 29).map (·.size) = some (climbN x a p p.length).length by rw [HCL.out]; exact Tryz.infoE)
      have HLZ := Lib.hid (show (List.replicate 16 0).length = (climbN x a p p.length).length by rw [HCL.out]; rfl)
      obtain ⟨z, hz⟩ : ∃ z, climbN x a p p.length = z := ⟨_, rfl⟩
      rw [hz] at HXK HIZ HLZ
      have HZ := Shut.mk hz
      clear hxk hrk hb hz HCL HCT
      go_wp2_with (first
        | (refine wpList_load_nums rfl 29 _ rfl gx .u8 _ 29 _ rfl HXK.out Tryz.underlying29 rfl HIZ.out ?_)
        | (refine wpList_store_nums rfl 29 _ _ rfl rfl gr .u8 _ z 29 rfl rfl HRK.out HIZ.out HLZ.out ?_))
      intro w7 hc' hb'
      have HC7 := Lib.hid (show Blk gr 29 .u8 z w7 from hc'.out)
      have HB7 := Lib.hid (show Below w.heap.size w w7 from But.toBelow HB.out hb'.out HGR.out HB.out.size)
      clear hc' hb'
      go_wp2_with fail
      exact bodyPost_ret (results_nums rfl _ _ gr .u8 _ 29 _ rfl HC7.out Tryz.underlying29 rfl HIZ.out) rfl ⟨by rw [HZ.out], HB7.out⟩
end Go.Proofs.YtpfhlhcnmeodbaaGreatDoor
