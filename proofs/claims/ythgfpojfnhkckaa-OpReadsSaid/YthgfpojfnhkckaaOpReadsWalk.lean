/-
  The walk of OpReads. Its last region written by op/gen/gen_readsw.py.
-/
import Derived.Test.YthgfpojfnhkckaaAlive9
import Derived.Test.YthgfpojfnhkckaaOpDrb
import Derived.Test.YthgfpojfnhkckaaOpBat
import Derived.Test.YthgfpojfnhkckaaOpAll
import Derived.Test.YthgfpojfnhkckaaOpSame
namespace Go.Proofs.Ythgfpojfnhkckaa.opReads
open Go.RowKit Go.BigFrame Go.Proofs.Ythgfpojfnhkckaa

theorem code_zero (b : Bool) : ((if b then (0 : Int) else 4) == 0) = b := by cases b <;> rfl
theorem code_four (b : Bool) : ((if b then (0 : Int) else 4) == 4) = !b := by cases b <;> rfl
set_option maxHeartbeats 8000000 in
set_option maxRecDepth 100000 in
theorem walk (w : World) (s : List UInt8) (hs : s.length ≤ 140737488351232) :
    Calls Try.prog 4 #[.string ⟨s.toArray⟩] w fun e w' => e = .returned (.bool true) ∧ Below w.heap.size w w' := by
  go_enter Try.func4, Try.ntmps4
  go_wp2_with fail
  refine (alive9_any w).mono ?_
  rintro e w1 ⟨rfl, hb⟩
  have HK1 := Lib.hid hb
  clear hb
  obtain ⟨n, hn⟩ : ∃ n, s.length = n := ⟨_, rfl⟩
  have HN := Shut.mk hn
  rw [hn] at hs
  by_cases hg : 8192 < n
  · have hgi : (8192 : Int) < (n : Int) := by omega
    go_wp2_with fail
    go_ret
    exact ⟨rfl, HK1.out⟩
  have hgi : ¬ (8192 : Int) < (n : Int) := by omega
  have HNL := Lib.hid (show s.length ≤ 8192 by rw [hn]; omega)
  have HA := Lib.hid (fun w' => dev_readDraft s w' (by have := HNL.out; omega))
  have HB := Lib.hid (fun w' => ref_readDraft s w' (by have := HNL.out; omega))
  have HC := Lib.hid (fun w' => dev_readOp s w' (by have := HNL.out; omega))
  have HD := Lib.hid (fun w' => ref_readOp s w' (by have := HNL.out; omega))
  have HE := Lib.hid (fun w' => dev_readBatch s w' (by have := HNL.out; omega))
  have HF := Lib.hid (fun w' => ref_readBatch s w' (by have := HNL.out; omega))
  have HZD := Lib.hid (show (Try.prog.info? 25).bind (·.zero) = some (.agg (draftL zeroD).toArray) by kernel_rfl)
  have HZO := Lib.hid (show (Try.prog.info? 28).bind (·.zero) = some (.agg (opL zeroO none 0).toArray) by kernel_rfl)
  -- the draft
  obtain ⟨qd, hqd⟩ : ∃ q, readD s = q := ⟨_, rfl⟩
  obtain ⟨qo, hqo⟩ : ∃ q, readO s = q := ⟨_, rfl⟩
  obtain ⟨ql, hql⟩ : ∃ q, readL s = q := ⟨_, rfl⟩
  rw [hqd] at HA HB
  rw [hqo] at HC HD
  rw [hql] at HE HF
  unfold DrD at HA
  unfold RdD at HB
  obtain ⟨d, hd⟩ : ∃ d, qd.getD zeroD = d := ⟨_, rfl⟩
  obtain ⟨b1, hb1⟩ : ∃ b, qd.isSome = b := ⟨_, rfl⟩
  rw [hd, hb1] at HA HB
  have HDOK := Lib.hid (show IdOk d.ref by
    rw [← hd]
    cases qd with
    | none => exact zeroI_ok
    | some x => exact (readD_some hqd).2.2.1)
  have HTD := Lib.hid (show b1 = true → ∀ w', Calls Try.prog 23 #[.agg (draftV d)] w' fun e w'' => e = .returned (.string ⟨s.toArray⟩) ∧ Below w'.heap.size w' w'' from fun h w' => by
    cases qd with
    | none => rw [← hb1] at h; cases h
    | some x =>
      have h1 := readD_some hqd
      obtain rfl : x = d := hd
      have h2 := dev_draftText x (h1.2.1.fit h1.2.2.1) w'
      rw [h1.1] at h2
      exact h2)
  obtain ⟨o, ho⟩ : ∃ o, qo.getD zeroO = o := ⟨_, rfl⟩
  obtain ⟨b2, hb2⟩ : ∃ b, qo.isSome = b := ⟨_, rfl⟩
  have HOK := Lib.hid (show o.Ok ∧ o.preds.length ≤ 32 by
    rw [← ho]
    cases qo with
    | none => exact ⟨⟨zeroI_ok, fun p hp => by cases hp⟩, by decide⟩
    | some x => exact ⟨(readO_some hqo).2.2, (readO_some hqo).2.1.2.2.2.1⟩)
  have hfo : ∀ (t : List UInt8) (x : OpN), readO t = some x → x.Fit := fun t x hx => by
    have h1 := readO_some hx
    refine h1.2.1.fit h1.2.2 ?_
    unfold readO at hx
    split at hx
    · split at hx
      · split at hx
        · rename_i _ _ y _ _ hy _
          split at hx
          · simp only [Option.some.injEq] at hx
            have := (allNum_some hy).2
            rw [← hx]
            show (y : Int) ≤ _
            omega
          · cases hx
        · cases hx
      · cases hx
    · cases hx
  have HTO := Lib.hid (show b2 = true → ∀ pa pc w', IAt pa o.preds w' → Calls Try.prog 24 #[.agg (opV o pa pc)] w' fun e w'' => e = .returned (.string ⟨s.toArray⟩) ∧ Below w'.heap.size w' w'' from fun h pa pc w' hia => by
    cases qo with
    | none => rw [← hb2] at h; cases h
    | some x =>
      have h1 := readO_some hqo
      obtain rfl : x = o := ho
      have h2 := dev_text9 x pa pc w' (hfo s x hqo) hia
      rw [h1.1] at h2
      exact h2)
  obtain ⟨L, hL⟩ : ∃ L, ql.getD [] = L := ⟨_, rfl⟩
  obtain ⟨b3, hb3⟩ : ∃ b, ql.isSome = b := ⟨_, rfl⟩
  have HLOK := Lib.hid (show (∀ x ∈ L, x.Ok) ∧ (∀ x ∈ L, x.preds.length ≤ 140737488351232) ∧ L.length ≤ 8 by
    rw [← hL]
    cases ql with
    | none => exact ⟨fun x hx => (by cases hx), fun x hx => (by cases hx), by decide⟩
    | some l =>
      obtain ⟨h1, h2, h3⟩ := readL_some hql
      exact ⟨fun x hx => (h2 x hx).2, fun x hx => by have := (h2 x hx).1.2.2.2.1; omega, h3⟩)
  have hfl : ∀ x ∈ L, x.Fit := by
    rw [← hL]
    cases ql with
    | none => exact fun x hx => (by cases hx)
    | some l =>
      intro x hx
      unfold readL at hql
      split at hql
      · rename_i l0 _
        split at hql
        · have h := (readAll_iff l0 l).1 hql
          have hm : some x ∈ l.map some := List.mem_map.2 ⟨x, hx, rfl⟩
          rw [← h] at hm
          obtain ⟨t, _, ht⟩ := List.mem_map.1 hm
          exact hfo t x ht
        · cases hql
      · cases hql
  have HTB := Lib.hid (show b3 = true → ∀ ao c w', OpsAt ao L w' → Calls Try.prog 25 #[.slice ao L.length c] w' fun e w'' => e = .returned (.string ⟨s.toArray⟩) ∧ Below w'.heap.size w' w'' from fun h ao c w' hia => by
    cases ql with
    | none => rw [← hb3] at h; cases h
    | some x =>
      have h1 := readL_some hql
      obtain rfl : x = L := hL
      have h2 := dev_batch ao x c w' hfl (by have := h1.2.2; omega) hia
      rw [h1.1] at h2
      exact h2)
  have HSD := Lib.hid (show (Try.prog.info? 25).map (·.size) = some (draftV d).size by rw [draftV_size HDOK.out.1]; exact Try.sizeD)
  have HSZ := Lib.hid (show (draftV zeroD).size = (draftV d).size by rw [draftV_size HDOK.out.1]; rfl)
  have HSO := Lib.hid (show ∀ pa pc, (Try.prog.info? 28).map (·.size) = some (opV o pa pc).size from fun pa pc => by rw [opV_size HOK.out.1.ref.1]; exact Try.sizeO)
  have HSP := Lib.hid (show ∀ pa pc, (opV zeroO none 0).size = (opV o pa pc).size from fun pa pc => by rw [opV_size HOK.out.1.ref.1]; rfl)
  have heq := fun w' => equal_draft d d HDOK.out HDOK.out w'
  rw [decide_eq_true (rfl : d = d)] at heq
  obtain ⟨e1, he1⟩ : ∃ e, (if b1 then (0 : Int) else 4) = e := ⟨_, rfl⟩
  obtain ⟨e2, he2⟩ : ∃ e, (if b2 then (0 : Int) else 4) = e := ⟨_, rfl⟩
  obtain ⟨e3, he3⟩ : ∃ e, (if b3 then (0 : Int) else 4) = e := ⟨_, rfl⟩
  rw [he1] at HA
  have z1 : (e1 == 0) = b1 := by rw [← he1]; exact code_zero b1
  have z2 : (e2 == 0) = b2 := by rw [← he2]; exact code_zero b2
  have z3 : (e3 == 0) = b3 := by rw [← he3]; exact code_zero b3
  have f1 : (e1 == 4) = !b1 := by rw [← he1]; exact code_four b1
  have f2 : (e2 == 4) = !b2 := by rw [← he2]; exact code_four b2
  have f3 : (e3 == 4) = !b3 := by rw [← he3]; exact code_four b3
  have HS2 := Lib.hid (fun pa pb pc pd w' h1 h2 => ref_same9 o o pa pb pc pd w' HOK.out.1 HOK.out.1 h1 h2 (by have := HOK.out.2; omega) (by have := HOK.out.2; omega))
  rw [decide_eq_true (rfl : o = o)] at HS2
  have HS3 := Lib.hid (fun pa pb ca cb w' h1 h2 => ref_sameAll L L pa pb ca cb w' HLOK.out.1 HLOK.out.1 h1 h2 HLOK.out.2.1 HLOK.out.2.1 (by have := HLOK.out.2.2; omega) (by have := HLOK.out.2.2; omega))
  rw [decide_eq_true (rfl : L = L)] at HS3
  have HCO := Lib.hid (show ∀ w', Calls Try.prog 17 #[.string ⟨s.toArray⟩] w' fun e w'' => (∃ pa pc, e = .returned (.tuple #[.agg (opV o pa pc), .int .i64 e2]) ∧ IAt pa o.preds w'') ∧ Below w'.heap.size w' w'' from fun w' => (HC.out w').mono (by
    rintro e w'' ⟨⟨pa, pc, h1, h2, _⟩, h3⟩
    rw [ho] at h2
    exact ⟨⟨pa, pc, by rw [h1, DrO, ho, hb2, he2], h2⟩, h3⟩))
  have HDO := Lib.hid (show ∀ w', Calls Try.prog 18 #[.string ⟨s.toArray⟩] w' fun e w'' => (∃ pa pc, e = .returned (.tuple #[.agg (opV o pa pc), .bool b2]) ∧ IAt pa o.preds w'') ∧ Below w'.heap.size w' w'' from fun w' => (HD.out w').mono (by
    rintro e w'' ⟨⟨pa, pc, h1, h2, _⟩, h3⟩
    rw [ho] at h2
    exact ⟨⟨pa, pc, by rw [h1, RdO, ho, hb2], h2⟩, h3⟩))
  have HEL := Lib.hid (show ∀ w', Calls Try.prog 19 #[.string ⟨s.toArray⟩] w' fun e w'' => (∃ ao c, e = .returned (.tuple #[.slice ao L.length c, .int .i64 e3]) ∧ OpsAt ao L w'') ∧ Below w'.heap.size w' w'' from fun w' => (HE.out w').mono (by
    rintro e w'' ⟨⟨v, h1, h2⟩, h3⟩
    rw [hL] at h2
    obtain ⟨ao, c, rfl⟩ := h2.form
    exact ⟨⟨ao, c, by rw [h1, hb3, he3], h2.at⟩, h3⟩))
  have HFL := Lib.hid (show ∀ w', Calls Try.prog 20 #[.string ⟨s.toArray⟩] w' fun e w'' => (∃ ao c, e = .returned (.tuple #[.slice ao L.length c, .bool b3]) ∧ OpsAt ao L w'') ∧ Below w'.heap.size w' w'' from fun w' => (HF.out w').mono (by
    rintro e w'' ⟨⟨v, h1, h2⟩, h3⟩
    rw [hL] at h2
    obtain ⟨ao, c, rfl⟩ := h2.form
    exact ⟨⟨ao, c, by rw [h1, hb3], h2.at⟩, h3⟩))
  obtain ⟨m, hm⟩ : ∃ m, L.length = m := ⟨_, rfl⟩
  rw [hm] at HEL HFL HS3 HTB
  clear HC HD HE HF hqd hqo hql hd ho hL hb1 hb2 hb3 hfo hfl he1 he2 he3 hm hs HNL HN hg
  go_wp2_with fail
  refine (HA.out w1).mono ?_
  rintro e w2 ⟨rfl, hb⟩
  have HK2 := Lib.hid (HK1.out.trans (hb.mono HK1.out.size))
  clear hb HK1
  go_wp2_with (first
    | (refine wpList_alloc_of rfl 25 rfl (draftL zeroD) HZD.out ?_)
    | (refine wpList_store_cells rfl 25 _ _ rfl rfl w2.heap.size (draftV zeroD) (draftV d) 25 rfl rfl (heap_alloc_new w2 _) HSD.out HSZ.out (draftV_all d) ?_))
  intro w3 hc hb
  have hb3 : Below w2.heap.size w2 w3 := But.toBelow ((Below.refl _ w2).alloc (Nat.le_refl _) _) hb.out (Nat.le_refl _) (by rw [World.size_alloc]; exact Nat.le_succ _)
  have HX3 := Lib.hid hc.out
  have HK3 := Lib.hid (HK2.out.trans (hb3.mono HK2.out.size))
  obtain ⟨gx, hgx⟩ : ∃ g, w2.heap.size = g := ⟨_, rfl⟩
  rw [hgx] at HX3 ⊢
  clear hc hb hb3 HK2 hgx
  go_wp2_with fail
  refine (HB.out w3).mono ?_
  rintro e w4 ⟨rfl, hb⟩
  have HX4 := Lib.hid (HX3.out.below hb)
  have HK4 := Lib.hid (HK3.out.trans (hb.mono HK3.out.size))
  clear hb HK3 HX3
  go_wp2_with (first
    | (refine wpList_alloc_of rfl 25 rfl (draftL zeroD) HZD.out ?_)
    | (refine wpList_store_cells rfl 25 _ _ rfl rfl w4.heap.size (draftV zeroD) (draftV d) 25 rfl rfl (heap_alloc_new w4 _) HSD.out HSZ.out (draftV_all d) ?_))
  intro w5 hc hb
  have hb5 : Below w4.heap.size w4 w5 := But.toBelow ((Below.refl _ w4).alloc (Nat.le_refl _) _) hb.out (Nat.le_refl _) (by rw [World.size_alloc]; exact Nat.le_succ _)
  have HX5 := Lib.hid (HX4.out.below hb5)
  have HY5 := Lib.hid hc.out
  have HK5 := Lib.hid (HK4.out.trans (hb5.mono HK4.out.size))
  obtain ⟨gy, hgy⟩ : ∃ g, w4.heap.size = g := ⟨_, rfl⟩
  rw [hgy] at HY5 ⊢
  clear hc hb hb5 HK4 hgy HX4
  go_wp2_with fail
  refine (HCO.out w5).mono ?_
  rintro e w6 ⟨⟨pa, pc, rfl, hia⟩, hb⟩
  have HI6 := Lib.hid hia
  have HX6 := Lib.hid (HX5.out.below hb)
  have HY6 := Lib.hid (HY5.out.below hb)
  have HK6 := Lib.hid (HK5.out.trans (hb.mono HK5.out.size))
  clear hb hia HK5 HX5 HY5
  go_wp2_with (first
    | (refine wpList_alloc_of rfl 28 rfl (opL zeroO none 0) HZO.out ?_)
    | (refine wpList_store_cells rfl 28 _ _ rfl rfl w6.heap.size (opV zeroO none 0) (opV o pa pc) 28 rfl rfl (heap_alloc_new w6 _) (HSO.out pa pc) (HSP.out pa pc) (opV_all o pa pc) ?_))
  intro w7 hc hb
  have hb7 : Below w6.heap.size w6 w7 := But.toBelow ((Below.refl _ w6).alloc (Nat.le_refl _) _) hb.out (Nat.le_refl _) (by rw [World.size_alloc]; exact Nat.le_succ _)
  have HI7 := Lib.hid (HI6.out.below hb7)
  have HX7 := Lib.hid (HX6.out.below hb7)
  have HY7 := Lib.hid (HY6.out.below hb7)
  have HU7 := Lib.hid hc.out
  have HK7 := Lib.hid (HK6.out.trans (hb7.mono HK6.out.size))
  obtain ⟨gu, hgu⟩ : ∃ g, w6.heap.size = g := ⟨_, rfl⟩
  rw [hgu] at HU7 ⊢
  clear hc hb hb7 HK6 hgu HX6 HY6 HI6
  go_wp2_with fail
  refine (HDO.out w7).mono ?_
  rintro e w8 ⟨⟨pb, pd, rfl, hia⟩, hb⟩
  have HJ8 := Lib.hid hia
  have HI8 := Lib.hid (HI7.out.below hb)
  have HX8 := Lib.hid (HX7.out.below hb)
  have HY8 := Lib.hid (HY7.out.below hb)
  have HU8 := Lib.hid (HU7.out.below hb)
  have HK8 := Lib.hid (HK7.out.trans (hb.mono HK7.out.size))
  clear hb hia HK7 HX7 HY7 HI7 HU7
  go_wp2_with (first
    | (refine wpList_alloc_of rfl 28 rfl (opL zeroO none 0) HZO.out ?_)
    | (refine wpList_store_cells rfl 28 _ _ rfl rfl w8.heap.size (opV zeroO none 0) (opV o pb pd) 28 rfl rfl (heap_alloc_new w8 _) (HSO.out pb pd) (HSP.out pb pd) (opV_all o pb pd) ?_))
  intro w9 hc hb
  have hb9 : Below w8.heap.size w8 w9 := But.toBelow ((Below.refl _ w8).alloc (Nat.le_refl _) _) hb.out (Nat.le_refl _) (by rw [World.size_alloc]; exact Nat.le_succ _)
  have HI9 := Lib.hid (HI8.out.below hb9)
  have HJ9 := Lib.hid (HJ8.out.below hb9)
  have HX9 := Lib.hid (HX8.out.below hb9)
  have HY9 := Lib.hid (HY8.out.below hb9)
  have HU9 := Lib.hid (HU8.out.below hb9)
  have HV9 := Lib.hid hc.out
  have HK9 := Lib.hid (HK8.out.trans (hb9.mono HK8.out.size))
  obtain ⟨gv, hgv⟩ : ∃ g, w8.heap.size = g := ⟨_, rfl⟩
  rw [hgv] at HV9 ⊢
  clear hc hb hb9 HK8 hgv HX8 HY8 HI8 HU8 HJ8
  go_wp2_with fail
  refine (HEL.out w9).mono ?_
  rintro e wa ⟨⟨al, cl, rfl, hop⟩, hb⟩
  have HPa := Lib.hid hop
  have HIa := Lib.hid (HI9.out.below hb)
  have HJa := Lib.hid (HJ9.out.below hb)
  have HXa := Lib.hid (HX9.out.below hb)
  have HYa := Lib.hid (HY9.out.below hb)
  have HUa := Lib.hid (HU9.out.below hb)
  have HVa := Lib.hid (HV9.out.below hb)
  have HKa := Lib.hid (HK9.out.trans (hb.mono HK9.out.size))
  clear hb hop HK9 HX9 HY9 HI9 HU9 HJ9 HV9
  go_wp2_with fail
  refine (HFL.out wa).mono ?_
  rintro e wb ⟨⟨am, cm, rfl, hop⟩, hb⟩
  have HQb := Lib.hid hop
  have HPb := Lib.hid (HPa.out.below hb)
  have HIb := Lib.hid (HIa.out.below hb)
  have HJb := Lib.hid (HJa.out.below hb)
  have HXb := Lib.hid (HXa.out.below hb)
  have HYb := Lib.hid (HYa.out.below hb)
  have HUb := Lib.hid (HUa.out.below hb)
  have HVb := Lib.hid (HVa.out.below hb)
  have HKb := Lib.hid (HKa.out.trans (hb.mono HKa.out.size))
  clear hb hop HKa HXa HYa HIa HUa HJa HVa HPa HZD HZO HSZ HSP HA HB HCO HDO HEL HFL
  go_wp2_with (first
    | (refine wpList_load_cells rfl 25 _ rfl gx (draftV d) 25 _ rfl HXb.out Try.underlying25 rfl HSD.out ?_)
    | (refine wpList_load_cells rfl 25 _ rfl gy (draftV d) 25 _ rfl HYb.out Try.underlying25 rfl HSD.out ?_)
    | (refine wpList_load_cells_want (by rfl) 28 _ rfl gu (opV o pa pc) 28 _ rfl HUb.out Try.underlying28 rfl (HSO.out pa pc) ?_)
    | (refine wpList_load_cells_want (by rfl) 28 _ rfl gv (opV o pb pd) 28 _ rfl HVb.out Try.underlying28 rfl (HSO.out pb pd) ?_))
  refine (HS2.out pa pb pc pd wb HIb.out HJb.out).mono ?_
  rintro e wc ⟨rfl, hb⟩
  have HPc := Lib.hid (HPb.out.below hb)
  have HQc := Lib.hid (HQb.out.below hb)
  have HIc := Lib.hid (HIb.out.below hb)
  have HXc := Lib.hid (HXb.out.below hb)
  have HUc := Lib.hid (HUb.out.below hb)
  have HKc := Lib.hid (HKb.out.trans (hb.mono HKb.out.size))
  clear hb HKb HXb HYb HIb HUb HJb HVb HPb HQb HS2 heq
  go_wp2_with fail
  refine (HS3.out al am cl cm wc HPc.out HQc.out).mono ?_
  rintro e wd ⟨rfl, hb⟩
  have HPd := Lib.hid (HPc.out.below hb)
  have HId := Lib.hid (HIc.out.below hb)
  have HXd := Lib.hid (HXc.out.below hb)
  have HUd := Lib.hid (HUc.out.below hb)
  have HKd := Lib.hid (HKc.out.trans (hb.mono HKc.out.size))
  clear hb HKc HXc HIc HUc HPc HQc HS3
  cases b1 with
  | false =>
    cases b2 with
    | false =>
      cases b3 with
      | false =>
        simp only [Bool.not_false] at f1 f2 f3
        go_wp2_with fail
        go_ret
        exact ⟨rfl, HKd.out⟩
      | true =>
        simp only [Bool.not_true, Bool.not_false] at f1 f2 f3
        go_wp2_with fail
        refine (HTB.out (by first | rfl | trivial) al cl wd HPd.out).mono ?_
        rintro e we ⟨rfl, hb⟩
        have HPe := Lib.hid (HPd.out.below hb)
        have HIe := Lib.hid (HId.out.below hb)
        have HUe := Lib.hid (HUd.out.below hb)
        have HKe := Lib.hid (HKd.out.trans (hb.mono HKd.out.size))
        clear hb HKd HPd HId HUd
        go_wp2_with fail
        go_ret
        exact ⟨rfl, HKe.out⟩
    | true =>
      cases b3 with
      | false =>
        simp only [Bool.not_true, Bool.not_false] at f1 f2 f3
        go_wp2_with (refine wpList_load_cells_want (by rfl) 28 _ rfl gu (opV o pa pc) 28 _ rfl HUd.out Try.underlying28 rfl (HSO.out pa pc) ?_)
        refine (HTO.out (by first | rfl | trivial) pa pc wd HId.out).mono ?_
        rintro e we ⟨rfl, hb⟩
        have HPe := Lib.hid (HPd.out.below hb)
        have HIe := Lib.hid (HId.out.below hb)
        have HUe := Lib.hid (HUd.out.below hb)
        have HKe := Lib.hid (HKd.out.trans (hb.mono HKd.out.size))
        clear hb HKd HPd HId HUd
        go_wp2_with fail
        go_ret
        exact ⟨rfl, HKe.out⟩
      | true =>
        simp only [Bool.not_true, Bool.not_false] at f1 f2 f3
        go_wp2_with (refine wpList_load_cells_want (by rfl) 28 _ rfl gu (opV o pa pc) 28 _ rfl HUd.out Try.underlying28 rfl (HSO.out pa pc) ?_)
        refine (HTO.out (by first | rfl | trivial) pa pc wd HId.out).mono ?_
        rintro e we ⟨rfl, hb⟩
        have HPe := Lib.hid (HPd.out.below hb)
        have HIe := Lib.hid (HId.out.below hb)
        have HUe := Lib.hid (HUd.out.below hb)
        have HKe := Lib.hid (HKd.out.trans (hb.mono HKd.out.size))
        clear hb HKd HPd HId HUd
        go_wp2_with fail
        refine (HTB.out (by first | rfl | trivial) al cl we HPe.out).mono ?_
        rintro e wf ⟨rfl, hb⟩
        have HPf := Lib.hid (HPe.out.below hb)
        have HIf := Lib.hid (HIe.out.below hb)
        have HUf := Lib.hid (HUe.out.below hb)
        have HKf := Lib.hid (HKe.out.trans (hb.mono HKe.out.size))
        clear hb HKe HPe HIe HUe
        go_wp2_with fail
        go_ret
        exact ⟨rfl, HKf.out⟩
  | true =>
    cases b2 with
    | false =>
      cases b3 with
      | false =>
        simp only [Bool.not_true, Bool.not_false] at f1 f2 f3
        go_wp2_with (refine wpList_load_cells_want (by rfl) 25 _ rfl gx (draftV d) 25 _ rfl HXd.out Try.underlying25 rfl HSD.out ?_)
        refine (HTD.out (by first | rfl | trivial) wd).mono ?_
        rintro e we ⟨rfl, hb⟩
        have HPe := Lib.hid (HPd.out.below hb)
        have HIe := Lib.hid (HId.out.below hb)
        have HUe := Lib.hid (HUd.out.below hb)
        have HKe := Lib.hid (HKd.out.trans (hb.mono HKd.out.size))
        clear hb HKd HPd HId HUd
        go_wp2_with fail
        go_ret
        exact ⟨rfl, HKe.out⟩
      | true =>
        simp only [Bool.not_true, Bool.not_false] at f1 f2 f3
        go_wp2_with (refine wpList_load_cells_want (by rfl) 25 _ rfl gx (draftV d) 25 _ rfl HXd.out Try.underlying25 rfl HSD.out ?_)
        refine (HTD.out (by first | rfl | trivial) wd).mono ?_
        rintro e we ⟨rfl, hb⟩
        have HPe := Lib.hid (HPd.out.below hb)
        have HIe := Lib.hid (HId.out.below hb)
        have HUe := Lib.hid (HUd.out.below hb)
        have HKe := Lib.hid (HKd.out.trans (hb.mono HKd.out.size))
        clear hb HKd HPd HId HUd
        go_wp2_with fail
        refine (HTB.out (by first | rfl | trivial) al cl we HPe.out).mono ?_
        rintro e wf ⟨rfl, hb⟩
        have HPf := Lib.hid (HPe.out.below hb)
        have HIf := Lib.hid (HIe.out.below hb)
        have HUf := Lib.hid (HUe.out.below hb)
        have HKf := Lib.hid (HKe.out.trans (hb.mono HKe.out.size))
        clear hb HKe HPe HIe HUe
        go_wp2_with fail
        go_ret
        exact ⟨rfl, HKf.out⟩
    | true =>
      cases b3 with
      | false =>
        simp only [Bool.not_true, Bool.not_false] at f1 f2 f3
        go_wp2_with (refine wpList_load_cells_want (by rfl) 25 _ rfl gx (draftV d) 25 _ rfl HXd.out Try.underlying25 rfl HSD.out ?_)
        refine (HTD.out (by first | rfl | trivial) wd).mono ?_
        rintro e we ⟨rfl, hb⟩
        have HPe := Lib.hid (HPd.out.below hb)
        have HIe := Lib.hid (HId.out.below hb)
        have HUe := Lib.hid (HUd.out.below hb)
        have HKe := Lib.hid (HKd.out.trans (hb.mono HKd.out.size))
        clear hb HKd HPd HId HUd
        go_wp2_with (refine wpList_load_cells_want (by rfl) 28 _ rfl gu (opV o pa pc) 28 _ rfl HUe.out Try.underlying28 rfl (HSO.out pa pc) ?_)
        refine (HTO.out (by first | rfl | trivial) pa pc we HIe.out).mono ?_
        rintro e wf ⟨rfl, hb⟩
        have HPf := Lib.hid (HPe.out.below hb)
        have HIf := Lib.hid (HIe.out.below hb)
        have HUf := Lib.hid (HUe.out.below hb)
        have HKf := Lib.hid (HKe.out.trans (hb.mono HKe.out.size))
        clear hb HKe HPe HIe HUe
        go_wp2_with fail
        go_ret
        exact ⟨rfl, HKf.out⟩
      | true =>
        simp only [Bool.not_true] at f1 f2 f3
        go_wp2_with (refine wpList_load_cells_want (by rfl) 25 _ rfl gx (draftV d) 25 _ rfl HXd.out Try.underlying25 rfl HSD.out ?_)
        refine (HTD.out (by first | rfl | trivial) wd).mono ?_
        rintro e we ⟨rfl, hb⟩
        have HPe := Lib.hid (HPd.out.below hb)
        have HIe := Lib.hid (HId.out.below hb)
        have HUe := Lib.hid (HUd.out.below hb)
        have HKe := Lib.hid (HKd.out.trans (hb.mono HKd.out.size))
        clear hb HKd HPd HId HUd
        go_wp2_with (refine wpList_load_cells_want (by rfl) 28 _ rfl gu (opV o pa pc) 28 _ rfl HUe.out Try.underlying28 rfl (HSO.out pa pc) ?_)
        refine (HTO.out (by first | rfl | trivial) pa pc we HIe.out).mono ?_
        rintro e wf ⟨rfl, hb⟩
        have HPf := Lib.hid (HPe.out.below hb)
        have HIf := Lib.hid (HIe.out.below hb)
        have HUf := Lib.hid (HUe.out.below hb)
        have HKf := Lib.hid (HKe.out.trans (hb.mono HKe.out.size))
        clear hb HKe HPe HIe HUe
        go_wp2_with fail
        refine (HTB.out (by first | rfl | trivial) al cl wf HPf.out).mono ?_
        rintro e wg ⟨rfl, hb⟩
        have HPg := Lib.hid (HPf.out.below hb)
        have HIg := Lib.hid (HIf.out.below hb)
        have HUg := Lib.hid (HUf.out.below hb)
        have HKg := Lib.hid (HKf.out.trans (hb.mono HKf.out.size))
        clear hb HKf HPf HIf HUf
        go_wp2_with fail
        go_ret
        exact ⟨rfl, HKg.out⟩
end Go.Proofs.Ythgfpojfnhkckaa.opReads
