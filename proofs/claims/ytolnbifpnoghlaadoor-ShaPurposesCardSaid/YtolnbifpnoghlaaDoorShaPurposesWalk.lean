/-
  The walk of the law ShaPurposes.
-/
import Derived.Test.YtolnbifpnoghlaaDoorShaLaws
import Derived.Deep.RegionHeld
namespace Go.Proofs.YtolnbifpnoghlaaDoor.shaPurposes
open Go.RowKit Go.BigFrame

theorem cat3 (l s : List UInt8) : (({ data := l.toArray } : ByteArray) ++ { data := s.toArray }) = { data := (l ++ s).toArray } := by
  rw [ByteArray.ext_iff]; simp
theorem at_one (w : World) (r : List UInt8) : StrsAt (some ⟨w.heap.size, 0, none⟩) [r] (w.alloc (.cells #[.string ⟨r.toArray⟩] 9)) :=
  strsAt_own (c := 1) (ownS_one w r)
theorem at_two (w : World) (q r : List UInt8) : StrsAt (some ⟨w.heap.size, 0, none⟩) [q, r] (w.alloc (.cells #[.string ⟨q.toArray⟩, .string ⟨r.toArray⟩] 9)) := by
  refine strsAt_own (B := w.heap.size) (c := 2) ?_
  exact World.ownsRow_lit (base := w.heap.size) (e := 9) (size := 1) w #[.string ⟨q.toArray⟩, .string ⟨r.toArray⟩] 2 (Nat.le_refl _) (by unfold maxLen; omega) rfl
theorem great_one {r : List UInt8} (h : r.length ≤ 1024) : great2 [r] = false := by
  unfold great2
  rw [decide_eq_false_iff_not]
  simp [total2]
  omega
theorem great_two {q r : List UInt8} (h : q.length + r.length ≤ 1024) : great2 [q, r] = false := by
  unfold great2
  rw [decide_eq_false_iff_not]
  simp [total2]
  omega
/-- A digest of a purpose and one part. -/
theorem sum_one (p r : List UInt8) (h : p.length + r.length ≤ 1024) (w : World) (hk : KAt w) :
    Calls Tryd.prog 14 #[.string ⟨p.toArray⟩, .slice (some ⟨w.heap.size, 0, none⟩) 1 1] (w.alloc (.cells #[.string ⟨r.toArray⟩] 9)) fun e w' => e = .returned (.agg (nums .u8 (shaN (listB [p, r]))).toArray) ∧ Below w.heap.size w w' := by
  have hb : Below w.heap.size w (w.alloc (.cells #[.string ⟨r.toArray⟩] 9)) := (Below.refl _ _).alloc (Nat.le_refl _) _
  exact (dev_sum p (some ⟨w.heap.size, 0, none⟩) 1 [r] _ (at_one w r) (fun h => by cases h) (by simp) (by have := listB_small (p := p) (l := [r]) (by omega) (great_one (by omega)); omega) (hk.below hb)).mono fun e w' ⟨h1, h2⟩ => ⟨h1, hb.trans (h2.mono hb.size)⟩
theorem rsum_one (p r : List UInt8) (h : p.length + r.length ≤ 1024) (w : World) :
    Calls Tryd.prog 15 #[.string ⟨p.toArray⟩, .slice (some ⟨w.heap.size, 0, none⟩) 1 1] (w.alloc (.cells #[.string ⟨r.toArray⟩] 9)) fun e w' => e = .returned (.agg (nums .u8 (shaN (listB [p, r]))).toArray) ∧ Below w.heap.size w w' := by
  have hb : Below w.heap.size w (w.alloc (.cells #[.string ⟨r.toArray⟩] 9)) := (Below.refl _ _).alloc (Nat.le_refl _) _
  exact (ref_sum p (some ⟨w.heap.size, 0, none⟩) 1 [r] _ (at_one w r) (fun h => by cases h) (by simp) (by have := listB_small (p := p) (l := [r]) (by omega) (great_one (by omega)); omega)).mono fun e w' ⟨h1, h2⟩ => ⟨h1, hb.trans (h2.mono hb.size)⟩
theorem sum_two (p q r : List UInt8) (h : p.length + q.length + r.length ≤ 1024) (w : World) (hk : KAt w) :
    Calls Tryd.prog 14 #[.string ⟨p.toArray⟩, .slice (some ⟨w.heap.size, 0, none⟩) 2 2] (w.alloc (.cells #[.string ⟨q.toArray⟩, .string ⟨r.toArray⟩] 9)) fun e w' => e = .returned (.agg (nums .u8 (shaN (listB [p, q, r]))).toArray) ∧ Below w.heap.size w w' := by
  have hb : Below w.heap.size w (w.alloc (.cells #[.string ⟨q.toArray⟩, .string ⟨r.toArray⟩] 9)) := (Below.refl _ _).alloc (Nat.le_refl _) _
  exact (dev_sum p (some ⟨w.heap.size, 0, none⟩) 2 [q, r] _ (at_two w q r) (fun h => by cases h) (by simp) (by have := listB_small (p := p) (l := [q, r]) (by omega) (great_two (by omega)); omega) (hk.below hb)).mono fun e w' ⟨h1, h2⟩ => ⟨h1, hb.trans (h2.mono hb.size)⟩
theorem rsum_two (p q r : List UInt8) (h : p.length + q.length + r.length ≤ 1024) (w : World) :
    Calls Tryd.prog 15 #[.string ⟨p.toArray⟩, .slice (some ⟨w.heap.size, 0, none⟩) 2 2] (w.alloc (.cells #[.string ⟨q.toArray⟩, .string ⟨r.toArray⟩] 9)) fun e w' => e = .returned (.agg (nums .u8 (shaN (listB [p, q, r]))).toArray) ∧ Below w.heap.size w w' := by
  have hb : Below w.heap.size w (w.alloc (.cells #[.string ⟨q.toArray⟩, .string ⟨r.toArray⟩] 9)) := (Below.refl _ _).alloc (Nat.le_refl _) _
  exact (ref_sum p (some ⟨w.heap.size, 0, none⟩) 2 [q, r] _ (at_two w q r) (fun h => by cases h) (by simp) (by have := listB_small (p := p) (l := [q, r]) (by omega) (great_two (by omega)); omega)).mono fun e w' ⟨h1, h2⟩ => ⟨h1, hb.trans (h2.mono hb.size)⟩

theorem rsum_at (p r : List UInt8) (g : Nat) (w : World) (hs : StrsAt (some ⟨g, 0, none⟩) [r] w) (h : p.length + r.length ≤ 1024) :
    Calls Tryd.prog 15 #[.string ⟨p.toArray⟩, .slice (some ⟨g, 0, none⟩) 1 1] w fun e w' => e = .returned (.agg (nums .u8 (shaN (listB [p, r]))).toArray) ∧ Below w.heap.size w w' :=
  ref_sum p (some ⟨g, 0, none⟩) 1 [r] _ hs (fun h => by cases h) (by simp) (by have := listB_small (p := p) (l := [r]) (by omega) (great_one (by omega)); omega)
/-- An array of numbers is read, in a region whose order is open: first. -/
theorem yields_load_nums {P : Program} {ops : Array Oper} {S : World → Prop} {o : Oper} {a : Act} (hw : Region.wanted o (yielded ops a.tmps) = true) (ty : TypeId) (x : Operand) (ho : o.op = .load ty x) (g : Nat) (k : IntKind) (l : List Nat) (t : TypeId) (d : TypeDesc)
    (hx : a.eval x = .pointer (some ⟨g, 0, none⟩)) (hS : ∀ w, S w → Blk g t k l w) (hu : P.underlying ty = some d) (hd : (match d with | .struct _ | .array _ _ => true | _ => false) = true) (hi : (P.info? ty).map (·.size) = some l.length) : YieldsIf P ops S o (.agg (nums k l).toArray) a :=
  .inl ⟨hw, fun w hw' => by
    unfold execOp
    simp only [ho, hx, Instr.loadAt, Instr.sureAddr, Sem.run_bind, Sem.run_pure, Result.andThen_ok, run_loadVar_row w g t ty _ (0, 0) d (hS w hw') hu hd (by rw [nums_size]; exact hi)]⟩

set_option maxHeartbeats 4000000 in
theorem walk (w : World) (hk : KAt w) (p : List UInt8) (hp : p.length ≤ 140737488351232) (q : List UInt8) (hq : q.length ≤ 140737488351232) (r : List UInt8) (hr : r.length ≤ 140737488351232) :
    Calls Tryd.prog 8 #[.string ⟨p.toArray⟩, .string ⟨q.toArray⟩, .string ⟨r.toArray⟩] w fun e w' => e = .returned (.bool true) ∧ Below w.heap.size w w' := by
  have HK := Lib.hid hk
  clear hk
  go_enter Tryd.func8, Tryd.ntmps8
  go_wp2_with fail
  refine (alive2_any w HK.out).mono ?_
  rintro e w1 ⟨rfl, hb1⟩
  have HB1 := Lib.hid hb1
  have HK1 := Lib.hid (HK.out.below hb1)
  clear hb1 HK
  by_cases hlong : 1024 < p.length + q.length + r.length
  · go_wp2_with fail
    go_ret
    exact ⟨rfl, HB1.out⟩
  · go_upto_region 5 with (fail)
    go_wp2_with fail
    refine (sum_one p r (by omega) w1 HK1.out).mono ?_
    rintro e w2 ⟨rfl, hb2⟩
    have HB2 := Lib.hid (HB1.out.trans (hb2.mono HB1.out.size))
    have HK2 := Lib.hid (HK1.out.below hb2)
    clear hb2 HB1 HK1
    go_wp2_with fail
    refine (sum_one q r (by omega) w2 HK2.out).mono ?_
    rintro e w3 ⟨rfl, hb3⟩
    have HB3 := Lib.hid (HB2.out.trans (hb3.mono HB2.out.size))
    have HK3 := Lib.hid (HK2.out.below hb3)
    clear hb3 HB2 HK2
    have HZ : Hid (Blk w3.heap.size 24 .u8 (List.replicate 32 0) ((w3.alloc (.cells (nums .u8 (List.replicate 32 0)).toArray 24)).alloc (.cells (nums .u8 (List.replicate 32 0)).toArray 24))) :=
      Lib.hid (Blk.alloc (show Blk w3.heap.size 24 .u8 (List.replicate 32 0) (w3.alloc (.cells (nums .u8 (List.replicate 32 0)).toArray 24)) from heap_alloc_new w3 _) _)
    have HIX := Lib.hid (show (Tryd.prog.info? 24).map (·.size) = some (shaN (listB [p, r])).length by rw [shaN_len]; exact Tryd.infoId)
    have HIY := Lib.hid (show (Tryd.prog.info? 24).map (·.size) = some (shaN (listB [q, r])).length by rw [shaN_len]; exact Tryd.infoId)
    have HLX := Lib.hid (show (List.replicate 32 0).length = (shaN (listB [p, r])).length by rw [shaN_len]; rfl)
    have HLY := Lib.hid (show (List.replicate 32 0).length = (shaN (listB [q, r])).length by rw [shaN_len]; rfl)
    go_wp2_with (refine wpList_store_nums rfl 24 _ _ rfl rfl w3.heap.size .u8 _ (shaN (listB [p, r])) 24 rfl rfl HZ.out HIX.out HLX.out ?_)
    intro w4 hc hb
    obtain ⟨gx, hgx⟩ : ∃ x, x = w3.heap.size := ⟨_, rfl⟩
    obtain ⟨gy, hgy⟩ : ∃ x, x = w3.heap.size + 1 := ⟨_, rfl⟩
    have hba : Below w3.heap.size w3 ((w3.alloc (.cells (nums .u8 (List.replicate 32 0)).toArray 24)).alloc (.cells (nums .u8 (List.replicate 32 0)).toArray 24)) := ((Below.refl _ _).alloc (Nat.le_refl _) _).alloc (by simp) _
    have hb4 : Below w3.heap.size w3 w4 := But.toBelow hba hb.out (Nat.le_refl _) hba.size
    have HX4 := Lib.hid (show Blk gx 24 .u8 (shaN (listB [p, r])) w4 by rw [hgx]; exact hc.out)
    have HZ4 := Lib.hid (show Blk gy 24 .u8 (List.replicate 32 0) w4 by
      have h := heap_alloc_new (w3.alloc (.cells (nums .u8 (List.replicate 32 0)).toArray 24)) (.cells (nums .u8 (List.replicate 32 0)).toArray 24)
      rw [World.size_alloc] at h
      rw [hgy]
      exact Blk.but (show Blk (w3.heap.size + 1) 24 .u8 (List.replicate 32 0) _ from h) hb.out (by omega))
    have HK4 := Lib.hid (HK3.out.below hb4)
    have HB4 := Lib.hid (HB3.out.trans (hb4.mono HB3.out.size))
    have HNE := Lib.hid (show gx ≠ gy by omega)
    have HGY := Lib.hid (show w.heap.size ≤ gy by have := HB3.out.size; omega)
    have HNK := Lib.hid (show 0 ≠ gy by have := HK3.out.lt; omega)
    rw [← hgy]
    rw [← hgx]
    clear hba hb4 hc hb hgx hgy HZ HK3 HB3 HIX HLX
    go_wp2_with (refine wpList_store_nums rfl 24 _ _ rfl rfl gy .u8 _ (shaN (listB [q, r])) 24 rfl rfl HZ4.out HIY.out HLY.out ?_)
    intro w5 hc hb
    have HX5 := Lib.hid (HX4.out.but hb.out HNE.out)
    have HY5 := Lib.hid (show Blk gy 24 .u8 (shaN (listB [q, r])) w5 from hc.out)
    have HK5 := Lib.hid (HK4.out.but hb.out HNK.out)
    have HB5 := Lib.hid (But.toBelow HB4.out hb.out HGY.out HB4.out.size)
    clear hc hb HX4 HZ4 HK4 HB4 HLY HIY HNE HGY HNK
    go_upto_region 6 with (fail)
    have HIX := Lib.hid (show (Tryd.prog.info? 24).map (·.size) = some (shaN (listB [p, r])).length by rw [shaN_len]; exact Tryd.infoId)
    have HIY := Lib.hid (show (Tryd.prog.info? 24).map (·.size) = some (shaN (listB [q, r])).length by rw [shaN_len]; exact Tryd.infoId)
    have e1 := equal_sha (listB [p, r]) (listB [q, r])
    by_cases hpq : p = q
    · subst hpq
      refine wp_region_held_drew (S := fun w' => Below w5.heap.size w5 w') (by kernel_rfl) ((Below.refl _ _).drew) (fun hH => ?_)
      refine wpAnyH_take (i := 0) (oi := { dst := some 28, op := Op.load 24 (Operand.tmp 7), type := 24, pos := "law.go:104", after := #[], guard := none }) (v := .agg (nums .u8 (shaN (listB [p, r]))).toArray) rfl (by kernel_rfl) (by kernel_rfl) (by kernel_rfl) (fun _ _ _ h => h) (yields_load_nums (by rfl) 24 _ rfl gx .u8 (shaN (listB [p, r])) 24 _ rfl (fun w' h => HX5.out.below h) Tryd.underlying24 rfl HIX.out) hH ?_
      simp only [Act.put, List.setIfInBounds_toArray, List.set_cons_zero, List.set_cons_succ]
      refine wpAnyH_take (i := 1) (oi := { dst := some 29, op := Op.load 24 (Operand.tmp 8), type := 24, pos := "law.go:104", after := #[], guard := none }) (v := .agg (nums .u8 (shaN (listB [p, r]))).toArray) rfl (by kernel_rfl) (by kernel_rfl) (by kernel_rfl) (fun _ _ _ h => h) (yields_load_nums (by rfl) 24 _ rfl gy .u8 (shaN (listB [p, r])) 24 _ rfl (fun w' h => HY5.out.below h) Tryd.underlying24 rfl HIY.out) hH ?_
      simp only [Act.put, List.setIfInBounds_toArray, List.set_cons_zero, List.set_cons_succ]
      refine wpAnyH_take (i := 2) (oi := { dst := some 30, op := Op.binOp BinOp.eql 24 (Operand.tmp 28) (Operand.tmp 29) 24, type := 4, pos := "law.go:104", after := #[{ on := 0, ground := Ground.data }, { on := 1, ground := Ground.data }], guard := none }) (v := .bool true) rfl (by kernel_rfl) (by kernel_rfl) (by kernel_rfl) (fun _ _ _ h => h) (Or.inl ⟨by rfl, by intro w' hS; go_simp⟩) hH ?_
      simp only [Act.put, List.setIfInBounds_toArray, List.set_cons_zero, List.set_cons_succ]
      refine wpAnyH_take (i := 3) (oi := { dst := some 31, op := Op.move (Operand.tmp 0), type := 9, pos := "law.go:104", after := #[], guard := none }) (v := .string ⟨p.toArray⟩) rfl (by kernel_rfl) (by kernel_rfl) (by kernel_rfl) (fun _ _ _ h => h) (Or.inl ⟨by rfl, by intro w' hS; go_simp⟩) hH ?_
      simp only [Act.put, List.setIfInBounds_toArray, List.set_cons_zero, List.set_cons_succ]
      refine wpAnyH_take (i := 4) (oi := { dst := some 32, op := Op.move (Operand.tmp 1), type := 9, pos := "law.go:104", after := #[], guard := none }) (v := .string ⟨p.toArray⟩) rfl (by kernel_rfl) (by kernel_rfl) (by kernel_rfl) (fun _ _ _ h => h) (Or.inl ⟨by rfl, by intro w' hS; go_simp⟩) hH ?_
      simp only [Act.put, List.setIfInBounds_toArray, List.set_cons_zero, List.set_cons_succ]
      refine wpAnyH_take (i := 5) (oi := { dst := some 33, op := Op.binOp BinOp.eql 9 (Operand.tmp 31) (Operand.tmp 32) 9, type := 4, pos := "law.go:104", after := #[{ on := 3, ground := Ground.data }, { on := 4, ground := Ground.data }], guard := none }) (v := .bool true) rfl (by kernel_rfl) (by kernel_rfl) (by kernel_rfl) (fun _ _ _ h => h) (Or.inl ⟨by rfl, by intro w' hS; go_simp⟩) hH ?_
      simp only [Act.put, List.setIfInBounds_toArray, List.set_cons_zero, List.set_cons_succ]
      refine wpAnyH_take (i := 6) (oi := { dst := some 34, op := Op.move (Operand.tmp 33), type := 4, pos := "law.go:104", after := #[{ on := 5, ground := Ground.data }], guard := none }) (v := .bool true) rfl (by kernel_rfl) (by kernel_rfl) (by kernel_rfl) (fun _ _ _ h => h) (Or.inl ⟨by rfl, by intro w' hS; go_simp⟩) hH ?_
      simp only [Act.put, List.setIfInBounds_toArray, List.set_cons_zero, List.set_cons_succ]
      refine wpAnyH_take (i := 7) (oi := { dst := some 35, op := Op.move (Operand.tmp 0), type := 9, pos := "law.go:104", after := #[{ on := 6, ground := Ground.guard }], guard := some (6, false) }) (v := undef) rfl (by kernel_rfl) (by kernel_rfl) (by kernel_rfl) (fun _ _ _ h => h) (Or.inr ⟨by rfl, rfl⟩) hH ?_
      try simp only [Act.put, List.setIfInBounds_toArray, List.set_cons_zero, List.set_cons_succ]
      refine wpAnyH_take (i := 8) (oi := { dst := some 36, op := Op.move (Operand.tmp 2), type := 9, pos := "law.go:104", after := #[{ on := 6, ground := Ground.guard }], guard := some (6, false) }) (v := undef) rfl (by kernel_rfl) (by kernel_rfl) (by kernel_rfl) (fun _ _ _ h => h) (Or.inr ⟨by rfl, rfl⟩) hH ?_
      try simp only [Act.put, List.setIfInBounds_toArray, List.set_cons_zero, List.set_cons_succ]
      refine wpAnyH_take (i := 9) (oi := { dst := some 37, op := Op.buildSlice 29 1 #[(0, Operand.tmp 36)], type := 29, pos := "law.go:104", after := #[{ on := 8, ground := Ground.data }, { on := 6, ground := Ground.guard }], guard := some (6, false) }) (v := undef) rfl (by kernel_rfl) (by kernel_rfl) (by kernel_rfl) (fun _ _ _ h => h) (Or.inr ⟨by rfl, rfl⟩) hH ?_
      try simp only [Act.put, List.setIfInBounds_toArray, List.set_cons_zero, List.set_cons_succ]
      refine wpAnyH_take (i := 10) (oi := { dst := some 38, op := Op.call { callee := Callee.value (Operand.func 15), args := #[Operand.tmp 35, Operand.tmp 37], argTypes := #[9, 29] }, type := 24, pos := "law.go:104", after := #[{ on := 7, ground := Ground.data }, { on := 9, ground := Ground.data }, { on := 6, ground := Ground.chain }, { on := 6, ground := Ground.guard }], guard := some (6, false) }) (v := undef) rfl (by kernel_rfl) (by kernel_rfl) (by kernel_rfl) (fun _ _ _ h => h) (Or.inr ⟨by rfl, rfl⟩) hH ?_
      try simp only [Act.put, List.setIfInBounds_toArray, List.set_cons_zero, List.set_cons_succ]
      refine wpAnyH_take (i := 11) (oi := { dst := some 39, op := Op.move (Operand.tmp 1), type := 9, pos := "law.go:104", after := #[{ on := 6, ground := Ground.guard }], guard := some (6, false) }) (v := undef) rfl (by kernel_rfl) (by kernel_rfl) (by kernel_rfl) (fun _ _ _ h => h) (Or.inr ⟨by rfl, rfl⟩) hH ?_
      try simp only [Act.put, List.setIfInBounds_toArray, List.set_cons_zero, List.set_cons_succ]
      refine wpAnyH_take (i := 12) (oi := { dst := some 40, op := Op.move (Operand.tmp 2), type := 9, pos := "law.go:104", after := #[{ on := 6, ground := Ground.guard }], guard := some (6, false) }) (v := undef) rfl (by kernel_rfl) (by kernel_rfl) (by kernel_rfl) (fun _ _ _ h => h) (Or.inr ⟨by rfl, rfl⟩) hH ?_
      try simp only [Act.put, List.setIfInBounds_toArray, List.set_cons_zero, List.set_cons_succ]
      refine wpAnyH_take (i := 13) (oi := { dst := some 41, op := Op.buildSlice 29 1 #[(0, Operand.tmp 40)], type := 29, pos := "law.go:104", after := #[{ on := 12, ground := Ground.data }, { on := 6, ground := Ground.guard }], guard := some (6, false) }) (v := undef) rfl (by kernel_rfl) (by kernel_rfl) (by kernel_rfl) (fun _ _ _ h => h) (Or.inr ⟨by rfl, rfl⟩) hH ?_
      try simp only [Act.put, List.setIfInBounds_toArray, List.set_cons_zero, List.set_cons_succ]
      refine wpAnyH_take (i := 14) (oi := { dst := some 42, op := Op.call { callee := Callee.value (Operand.func 15), args := #[Operand.tmp 39, Operand.tmp 41], argTypes := #[9, 29] }, type := 24, pos := "law.go:104", after := #[{ on := 11, ground := Ground.data }, { on := 13, ground := Ground.data }, { on := 10, ground := Ground.chain }, { on := 6, ground := Ground.guard }], guard := some (6, false) }) (v := undef) rfl (by kernel_rfl) (by kernel_rfl) (by kernel_rfl) (fun _ _ _ h => h) (Or.inr ⟨by rfl, rfl⟩) hH ?_
      try simp only [Act.put, List.setIfInBounds_toArray, List.set_cons_zero, List.set_cons_succ]
      refine wpAnyH_take (i := 15) (oi := { dst := some 43, op := Op.binOp BinOp.eql 24 (Operand.tmp 38) (Operand.tmp 42) 24, type := 4, pos := "law.go:104", after := #[{ on := 10, ground := Ground.data }, { on := 14, ground := Ground.data }, { on := 6, ground := Ground.guard }], guard := some (6, false) }) (v := undef) rfl (by kernel_rfl) (by kernel_rfl) (by kernel_rfl) (fun _ _ _ h => h) (Or.inr ⟨by rfl, rfl⟩) hH ?_
      try simp only [Act.put, List.setIfInBounds_toArray, List.set_cons_zero, List.set_cons_succ]
      refine wpAnyH_take (i := 16) (oi := { dst := some 44, op := Op.pick (Operand.tmp 34) (Operand.const (Value.bool true)) (Operand.tmp 43), type := 4, pos := "law.go:104", after := #[{ on := 6, ground := Ground.data }, { on := 15, ground := Ground.data }], guard := none }) (v := .bool true) rfl (by kernel_rfl) (by kernel_rfl) (by kernel_rfl) (fun _ _ _ h => h) (Or.inl ⟨by rfl, by intro w' hS; go_simp⟩) hH ?_
      simp only [Act.put, List.setIfInBounds_toArray, List.set_cons_zero, List.set_cons_succ]
      refine wpAnyH_take (i := 17) (oi := { dst := some 45, op := Op.binOp BinOp.neq 4 (Operand.tmp 30) (Operand.tmp 44) 4, type := 4, pos := "law.go:104", after := #[{ on := 2, ground := Ground.data }, { on := 16, ground := Ground.data }], guard := none }) (v := .bool false) rfl (by kernel_rfl) (by kernel_rfl) (by kernel_rfl) (fun _ _ _ h => h) (Or.inl ⟨by rfl, by intro w' hS; go_simp⟩) hH ?_
      simp only [Act.put, List.setIfInBounds_toArray, List.set_cons_zero, List.set_cons_succ]
      refine wpAnyH_done (by kernel_rfl) ?_ _
      obtain ⟨wz, hwz⟩ : ∃ x, x = w5.drew := ⟨_, rfl⟩
      rw [← hwz] at hH
      rw [← hwz]
      have HKz := Lib.hid (HK5.out.below hH)
      have HBz := Lib.hid (HB5.out.trans (hH.mono HB5.out.size))
      clear hwz hH HK5 HB5 HX5 HY5 HIX HIY e1
      go_wp2_with fail
      refine (sum_two p p r (by omega) wz HKz.out).mono ?_
      rintro e v1 ⟨rfl, hb⟩
      have HK1 := Lib.hid (HKz.out.below hb)
      have HB1 := Lib.hid (HBz.out.trans (hb.mono HBz.out.size))
      clear hb HKz HBz
      have hcat := cat3 p r
      go_wp2_with fail
      refine (sum_one p (p ++ r) (by rw [List.length_append]; omega) v1 HK1.out).mono ?_
      rintro e v2 ⟨rfl, hb⟩
      have HB2 := Lib.hid (HB1.out.trans (hb.mono HB1.out.size))
      clear hb HK1 HB1
      have e2 := equal_sha (listB [p, p, r]) (listB [p, p ++ r])
      by_cases hne : (shaN (listB [p, p, r]) == shaN (listB [p, p ++ r])) = true
      · go_wp2_with fail
        refine (rsum_two p p r (by omega) v2).mono ?_
        rintro e v3 ⟨rfl, hb⟩
        have HB3 := Lib.hid (HB2.out.trans (hb.mono HB2.out.size))
        clear hb HB2
        go_wp2_with fail
        refine (rsum_one p (p ++ r) (by rw [List.length_append]; omega) v3).mono ?_
        rintro e v4 ⟨rfl, hb⟩
        have HB4 := Lib.hid (HB3.out.trans (hb.mono HB3.out.size))
        clear hb HB3
        go_wp2_with fail
        go_ret
        exact ⟨rfl, HB4.out⟩
      · have hne2 : (shaN (listB [p, p, r]) == shaN (listB [p, p ++ r])) = false := by simpa using hne
        clear hne
        go_wp2_with fail
        go_ret
        exact ⟨rfl, HB2.out⟩
    · have f0 : (p == q) = false := by simpa using hpq
      clear hpq
      refine wp_region_held_drew (S := fun w' => Below w5.heap.size w5 w') (by kernel_rfl) ((Below.refl _ _).drew) (fun hH => ?_)
      refine wpAnyH_take (i := 0) (oi := { dst := some 28, op := Op.load 24 (Operand.tmp 7), type := 24, pos := "law.go:104", after := #[], guard := none }) (v := .agg (nums .u8 (shaN (listB [p, r]))).toArray) rfl (by kernel_rfl) (by kernel_rfl) (by kernel_rfl) (fun _ _ _ h => h) (yields_load_nums (by rfl) 24 _ rfl gx .u8 (shaN (listB [p, r])) 24 _ rfl (fun w' h => HX5.out.below h) Tryd.underlying24 rfl HIX.out) hH ?_
      simp only [Act.put, List.setIfInBounds_toArray, List.set_cons_zero, List.set_cons_succ]
      refine wpAnyH_take (i := 1) (oi := { dst := some 29, op := Op.load 24 (Operand.tmp 8), type := 24, pos := "law.go:104", after := #[], guard := none }) (v := .agg (nums .u8 (shaN (listB [q, r]))).toArray) rfl (by kernel_rfl) (by kernel_rfl) (by kernel_rfl) (fun _ _ _ h => h) (yields_load_nums (by rfl) 24 _ rfl gy .u8 (shaN (listB [q, r])) 24 _ rfl (fun w' h => HY5.out.below h) Tryd.underlying24 rfl HIY.out) hH ?_
      simp only [Act.put, List.setIfInBounds_toArray, List.set_cons_zero, List.set_cons_succ]
      refine wpAnyH_take (i := 2) (oi := { dst := some 30, op := Op.binOp BinOp.eql 24 (Operand.tmp 28) (Operand.tmp 29) 24, type := 4, pos := "law.go:104", after := #[{ on := 0, ground := Ground.data }, { on := 1, ground := Ground.data }], guard := none }) (v := .bool (shaN (listB [p, r]) == shaN (listB [q, r]))) rfl (by kernel_rfl) (by kernel_rfl) (by kernel_rfl) (fun _ _ _ h => h) (Or.inl ⟨by rfl, by intro w' hS; go_simp⟩) hH ?_
      simp only [Act.put, List.setIfInBounds_toArray, List.set_cons_zero, List.set_cons_succ]
      refine wpAnyH_take (i := 3) (oi := { dst := some 31, op := Op.move (Operand.tmp 0), type := 9, pos := "law.go:104", after := #[], guard := none }) (v := .string ⟨p.toArray⟩) rfl (by kernel_rfl) (by kernel_rfl) (by kernel_rfl) (fun _ _ _ h => h) (Or.inl ⟨by rfl, by intro w' hS; go_simp⟩) hH ?_
      simp only [Act.put, List.setIfInBounds_toArray, List.set_cons_zero, List.set_cons_succ]
      refine wpAnyH_take (i := 4) (oi := { dst := some 32, op := Op.move (Operand.tmp 1), type := 9, pos := "law.go:104", after := #[], guard := none }) (v := .string ⟨q.toArray⟩) rfl (by kernel_rfl) (by kernel_rfl) (by kernel_rfl) (fun _ _ _ h => h) (Or.inl ⟨by rfl, by intro w' hS; go_simp⟩) hH ?_
      simp only [Act.put, List.setIfInBounds_toArray, List.set_cons_zero, List.set_cons_succ]
      refine wpAnyH_take (i := 5) (oi := { dst := some 33, op := Op.binOp BinOp.eql 9 (Operand.tmp 31) (Operand.tmp 32) 9, type := 4, pos := "law.go:104", after := #[{ on := 3, ground := Ground.data }, { on := 4, ground := Ground.data }], guard := none }) (v := .bool false) rfl (by kernel_rfl) (by kernel_rfl) (by kernel_rfl) (fun _ _ _ h => h) (Or.inl ⟨by rfl, by intro w' hS; go_simp⟩) hH ?_
      simp only [Act.put, List.setIfInBounds_toArray, List.set_cons_zero, List.set_cons_succ]
      refine wpAnyH_take (i := 6) (oi := { dst := some 34, op := Op.move (Operand.tmp 33), type := 4, pos := "law.go:104", after := #[{ on := 5, ground := Ground.data }], guard := none }) (v := .bool false) rfl (by kernel_rfl) (by kernel_rfl) (by kernel_rfl) (fun _ _ _ h => h) (Or.inl ⟨by rfl, by intro w' hS; go_simp⟩) hH ?_
      simp only [Act.put, List.setIfInBounds_toArray, List.set_cons_zero, List.set_cons_succ]
      refine wpAnyH_take (i := 7) (oi := { dst := some 35, op := Op.move (Operand.tmp 0), type := 9, pos := "law.go:104", after := #[{ on := 6, ground := Ground.guard }], guard := some (6, false) }) (v := .string ⟨p.toArray⟩) rfl (by kernel_rfl) (by kernel_rfl) (by kernel_rfl) (fun _ _ _ h => h) (Or.inl ⟨by rfl, by intro w' hS; go_simp⟩) hH ?_
      simp only [Act.put, List.setIfInBounds_toArray, List.set_cons_zero, List.set_cons_succ]
      refine wpAnyH_take (i := 8) (oi := { dst := some 36, op := Op.move (Operand.tmp 2), type := 9, pos := "law.go:104", after := #[{ on := 6, ground := Ground.guard }], guard := some (6, false) }) (v := .string ⟨r.toArray⟩) rfl (by kernel_rfl) (by kernel_rfl) (by kernel_rfl) (fun _ _ _ h => h) (Or.inl ⟨by rfl, by intro w' hS; go_simp⟩) hH ?_
      simp only [Act.put, List.setIfInBounds_toArray, List.set_cons_zero, List.set_cons_succ]
      refine wpAnyH_take (i := 11) (oi := { dst := some 39, op := Op.move (Operand.tmp 1), type := 9, pos := "law.go:104", after := #[{ on := 6, ground := Ground.guard }], guard := some (6, false) }) (v := .string ⟨q.toArray⟩) rfl (by kernel_rfl) (by kernel_rfl) (by kernel_rfl) (fun _ _ _ h => h) (Or.inl ⟨by rfl, by intro w' hS; go_simp⟩) hH ?_
      simp only [Act.put, List.setIfInBounds_toArray, List.set_cons_zero, List.set_cons_succ]
      refine wpAnyH_take (i := 12) (oi := { dst := some 40, op := Op.move (Operand.tmp 2), type := 9, pos := "law.go:104", after := #[{ on := 6, ground := Ground.guard }], guard := some (6, false) }) (v := .string ⟨r.toArray⟩) rfl (by kernel_rfl) (by kernel_rfl) (by kernel_rfl) (fun _ _ _ h => h) (Or.inl ⟨by rfl, by intro w' hS; go_simp⟩) hH ?_
      simp only [Act.put, List.setIfInBounds_toArray, List.set_cons_zero, List.set_cons_succ]
      obtain ⟨w6, hw6⟩ : ∃ x, x = w5.drew := ⟨_, rfl⟩
      rw [← hw6] at hH
      rw [← hw6]
      clear hw6
      refine wpAnyH_ready (rs := [9, 13]) (by kernel_rfl) (by simp) ?_
      refine AllReadyH.cons (o := { dst := some 37, op := Op.buildSlice 29 1 #[(0, Operand.tmp 36)], type := 29, pos := "law.go:104", after := #[{ on := 8, ground := Ground.data }, { on := 6, ground := Ground.guard }], guard := some (6, false) }) rfl (fun K hK => ?_) (AllReadyH.cons (o := { dst := some 41, op := Op.buildSlice 29 1 #[(0, Operand.tmp 40)], type := 29, pos := "law.go:104", after := #[{ on := 12, ground := Ground.data }, { on := 6, ground := Ground.guard }], guard := some (6, false) }) rfl (fun K hK => ?_) AllReadyH.nil)
      · skip
        rw [if_pos (by rfl)]
        go_simp
        obtain ⟨g1, hg1⟩ : ∃ x, x = w6.heap.size := ⟨_, rfl⟩
        obtain ⟨w7, hw7⟩ : ∃ x, x = w6.alloc (.cells #[.string ⟨r.toArray⟩] 9) := ⟨_, rfl⟩
        have HS1 : Hid (StrsAt (some ⟨g1, 0, none⟩) [r] w7) := Lib.hid (by rw [hw7, hg1]; exact at_one w6 r)
        have hb : Below w6.heap.size w6 w7 := by rw [hw7]; exact (Below.refl _ _).alloc (Nat.le_refl _) _
        rw [← hg1, ← hw7]
        refine hK.out _ _ (hH.trans (hb.mono hH.size)) (fun hH => ?_)
        clear hK K hb hw7 hg1
        try simp only [Act.put, List.setIfInBounds_toArray, List.set_cons_zero, List.set_cons_succ]
        refine wpAnyH_ready (rs := [10, 13]) (by kernel_rfl) (by simp) ?_
        refine AllReadyH.cons (o := { dst := some 38, op := Op.call { callee := Callee.value (Operand.func 15), args := #[Operand.tmp 35, Operand.tmp 37], argTypes := #[9, 29] }, type := 24, pos := "law.go:104", after := #[{ on := 7, ground := Ground.data }, { on := 9, ground := Ground.data }, { on := 6, ground := Ground.chain }, { on := 6, ground := Ground.guard }], guard := some (6, false) }) rfl (fun K hK => ?_) (AllReadyH.cons (o := { dst := some 41, op := Op.buildSlice 29 1 #[(0, Operand.tmp 40)], type := 29, pos := "law.go:104", after := #[{ on := 12, ground := Ground.data }, { on := 6, ground := Ground.guard }], guard := some (6, false) }) rfl (fun K hK => ?_) AllReadyH.nil)
        · skip
          rw [if_pos (by rfl)]
          go_simp
          refine (rsum_at p r _ w7 HS1.out (by omega)).mono ?_
          rintro e w8 ⟨rfl, hb⟩
          refine hK.out _ _ (hH.trans (hb.mono hH.size)) (fun hH => ?_)
          clear hK K hb
          try simp only [Act.put, List.setIfInBounds_toArray, List.set_cons_zero, List.set_cons_succ]
          refine wpAnyH_ready (rs := [13]) (by kernel_rfl) (by simp) ?_
          refine AllReadyH.cons (o := { dst := some 41, op := Op.buildSlice 29 1 #[(0, Operand.tmp 40)], type := 29, pos := "law.go:104", after := #[{ on := 12, ground := Ground.data }, { on := 6, ground := Ground.guard }], guard := some (6, false) }) rfl (fun K hK => ?_) AllReadyH.nil
          rw [if_pos (by rfl)]
          go_simp
          obtain ⟨g2, hg2⟩ : ∃ x, x = w8.heap.size := ⟨_, rfl⟩
          obtain ⟨w9, hw9⟩ : ∃ x, x = w8.alloc (.cells #[.string ⟨r.toArray⟩] 9) := ⟨_, rfl⟩
          have HS2 : Hid (StrsAt (some ⟨g2, 0, none⟩) [r] w9) := Lib.hid (by rw [hw9, hg2]; exact at_one w8 r)
          have hb : Below w8.heap.size w8 w9 := by rw [hw9]; exact (Below.refl _ _).alloc (Nat.le_refl _) _
          rw [← hg2, ← hw9]
          refine hK.out _ _ (hH.trans (hb.mono hH.size)) (fun hH => ?_)
          clear hK K hb hw9 hg2
          try simp only [Act.put, List.setIfInBounds_toArray, List.set_cons_zero, List.set_cons_succ]
          refine wpAnyH_ready (rs := [14]) (by kernel_rfl) (by simp) ?_
          refine AllReadyH.cons (o := { dst := some 42, op := Op.call { callee := Callee.value (Operand.func 15), args := #[Operand.tmp 39, Operand.tmp 41], argTypes := #[9, 29] }, type := 24, pos := "law.go:104", after := #[{ on := 11, ground := Ground.data }, { on := 13, ground := Ground.data }, { on := 10, ground := Ground.chain }, { on := 6, ground := Ground.guard }], guard := some (6, false) }) rfl (fun K hK => ?_) AllReadyH.nil
          rw [if_pos (by rfl)]
          go_simp
          refine (rsum_at q r _ w9 HS2.out (by omega)).mono ?_
          rintro e wz ⟨rfl, hb⟩
          refine hK.out _ _ (hH.trans (hb.mono hH.size)) (fun hH => ?_)
          clear hK K hb
          try simp only [Act.put, List.setIfInBounds_toArray, List.set_cons_zero, List.set_cons_succ]
          refine wpAnyH_take (i := 15) (oi := { dst := some 43, op := Op.binOp BinOp.eql 24 (Operand.tmp 38) (Operand.tmp 42) 24, type := 4, pos := "law.go:104", after := #[{ on := 10, ground := Ground.data }, { on := 14, ground := Ground.data }, { on := 6, ground := Ground.guard }], guard := some (6, false) }) (v := .bool (shaN (listB [p, r]) == shaN (listB [q, r]))) rfl (by kernel_rfl) (by kernel_rfl) (by kernel_rfl) (fun _ _ _ h => h) (Or.inl ⟨by rfl, by intro w' hS; go_simp⟩) hH ?_
          simp only [Act.put, List.setIfInBounds_toArray, List.set_cons_zero, List.set_cons_succ]
          refine wpAnyH_take (i := 16) (oi := { dst := some 44, op := Op.pick (Operand.tmp 34) (Operand.const (Value.bool true)) (Operand.tmp 43), type := 4, pos := "law.go:104", after := #[{ on := 6, ground := Ground.data }, { on := 15, ground := Ground.data }], guard := none }) (v := .bool (shaN (listB [p, r]) == shaN (listB [q, r]))) rfl (by kernel_rfl) (by kernel_rfl) (by kernel_rfl) (fun _ _ _ h => h) (Or.inl ⟨by rfl, by intro w' hS; go_simp⟩) hH ?_
          simp only [Act.put, List.setIfInBounds_toArray, List.set_cons_zero, List.set_cons_succ]
          refine wpAnyH_take (i := 17) (oi := { dst := some 45, op := Op.binOp BinOp.neq 4 (Operand.tmp 30) (Operand.tmp 44) 4, type := 4, pos := "law.go:104", after := #[{ on := 2, ground := Ground.data }, { on := 16, ground := Ground.data }], guard := none }) (v := .bool false) rfl (by kernel_rfl) (by kernel_rfl) (by kernel_rfl) (fun _ _ _ h => h) (Or.inl ⟨by rfl, by intro w' hS; go_simp⟩) hH ?_
          simp only [Act.put, List.setIfInBounds_toArray, List.set_cons_zero, List.set_cons_succ]
          refine wpAnyH_done (by kernel_rfl) ?_ _
          have HKz := Lib.hid (HK5.out.below hH)
          have HBz := Lib.hid (HB5.out.trans (hH.mono HB5.out.size))
          clear hH HK5 HB5 HX5 HY5 HIX HIY f0 e1
          go_wp2_with fail
          refine (sum_two p q r (by omega) wz HKz.out).mono ?_
          rintro e v1 ⟨rfl, hb⟩
          have HK1 := Lib.hid (HKz.out.below hb)
          have HB1 := Lib.hid (HBz.out.trans (hb.mono HBz.out.size))
          clear hb HKz HBz
          have hcat := cat3 q r
          go_wp2_with fail
          refine (sum_one p (q ++ r) (by rw [List.length_append]; omega) v1 HK1.out).mono ?_
          rintro e v2 ⟨rfl, hb⟩
          have HB2 := Lib.hid (HB1.out.trans (hb.mono HB1.out.size))
          clear hb HK1 HB1
          have e2 := equal_sha (listB [p, q, r]) (listB [p, q ++ r])
          by_cases hne : (shaN (listB [p, q, r]) == shaN (listB [p, q ++ r])) = true
          · go_wp2_with fail
            refine (rsum_two p q r (by omega) v2).mono ?_
            rintro e v3 ⟨rfl, hb⟩
            have HB3 := Lib.hid (HB2.out.trans (hb.mono HB2.out.size))
            clear hb HB2
            go_wp2_with fail
            refine (rsum_one p (q ++ r) (by rw [List.length_append]; omega) v3).mono ?_
            rintro e v4 ⟨rfl, hb⟩
            have HB4 := Lib.hid (HB3.out.trans (hb.mono HB3.out.size))
            clear hb HB3
            go_wp2_with fail
            go_ret
            exact ⟨rfl, HB4.out⟩
          · have hne2 : (shaN (listB [p, q, r]) == shaN (listB [p, q ++ r])) = false := by simpa using hne
            clear hne
            go_wp2_with fail
            go_ret
            exact ⟨rfl, HB2.out⟩
        · skip
          rw [if_pos (by rfl)]
          go_simp
          obtain ⟨g2, hg2⟩ : ∃ x, x = w7.heap.size := ⟨_, rfl⟩
          obtain ⟨w8, hw8⟩ : ∃ x, x = w7.alloc (.cells #[.string ⟨r.toArray⟩] 9) := ⟨_, rfl⟩
          have HS2 : Hid (StrsAt (some ⟨g2, 0, none⟩) [r] w8) := Lib.hid (by rw [hw8, hg2]; exact at_one w7 r)
          have hb : Below w7.heap.size w7 w8 := by rw [hw8]; exact (Below.refl _ _).alloc (Nat.le_refl _) _
          rw [← hg2, ← hw8]
          have HS1n := Lib.hid (HS1.out.below hb); clear HS1; have HS1 := HS1n; clear HS1n
          refine hK.out _ _ (hH.trans (hb.mono hH.size)) (fun hH => ?_)
          clear hK K hb hw8 hg2
          try simp only [Act.put, List.setIfInBounds_toArray, List.set_cons_zero, List.set_cons_succ]
          refine wpAnyH_ready (rs := [10]) (by kernel_rfl) (by simp) ?_
          refine AllReadyH.cons (o := { dst := some 38, op := Op.call { callee := Callee.value (Operand.func 15), args := #[Operand.tmp 35, Operand.tmp 37], argTypes := #[9, 29] }, type := 24, pos := "law.go:104", after := #[{ on := 7, ground := Ground.data }, { on := 9, ground := Ground.data }, { on := 6, ground := Ground.chain }, { on := 6, ground := Ground.guard }], guard := some (6, false) }) rfl (fun K hK => ?_) AllReadyH.nil
          rw [if_pos (by rfl)]
          go_simp
          refine (rsum_at p r _ w8 HS1.out (by omega)).mono ?_
          rintro e w9 ⟨rfl, hb⟩
          have HS2n := Lib.hid (HS2.out.below hb); clear HS2; have HS2 := HS2n; clear HS2n
          refine hK.out _ _ (hH.trans (hb.mono hH.size)) (fun hH => ?_)
          clear hK K hb
          try simp only [Act.put, List.setIfInBounds_toArray, List.set_cons_zero, List.set_cons_succ]
          refine wpAnyH_ready (rs := [14]) (by kernel_rfl) (by simp) ?_
          refine AllReadyH.cons (o := { dst := some 42, op := Op.call { callee := Callee.value (Operand.func 15), args := #[Operand.tmp 39, Operand.tmp 41], argTypes := #[9, 29] }, type := 24, pos := "law.go:104", after := #[{ on := 11, ground := Ground.data }, { on := 13, ground := Ground.data }, { on := 10, ground := Ground.chain }, { on := 6, ground := Ground.guard }], guard := some (6, false) }) rfl (fun K hK => ?_) AllReadyH.nil
          rw [if_pos (by rfl)]
          go_simp
          refine (rsum_at q r _ w9 HS2.out (by omega)).mono ?_
          rintro e wz ⟨rfl, hb⟩
          refine hK.out _ _ (hH.trans (hb.mono hH.size)) (fun hH => ?_)
          clear hK K hb
          try simp only [Act.put, List.setIfInBounds_toArray, List.set_cons_zero, List.set_cons_succ]
          refine wpAnyH_take (i := 15) (oi := { dst := some 43, op := Op.binOp BinOp.eql 24 (Operand.tmp 38) (Operand.tmp 42) 24, type := 4, pos := "law.go:104", after := #[{ on := 10, ground := Ground.data }, { on := 14, ground := Ground.data }, { on := 6, ground := Ground.guard }], guard := some (6, false) }) (v := .bool (shaN (listB [p, r]) == shaN (listB [q, r]))) rfl (by kernel_rfl) (by kernel_rfl) (by kernel_rfl) (fun _ _ _ h => h) (Or.inl ⟨by rfl, by intro w' hS; go_simp⟩) hH ?_
          simp only [Act.put, List.setIfInBounds_toArray, List.set_cons_zero, List.set_cons_succ]
          refine wpAnyH_take (i := 16) (oi := { dst := some 44, op := Op.pick (Operand.tmp 34) (Operand.const (Value.bool true)) (Operand.tmp 43), type := 4, pos := "law.go:104", after := #[{ on := 6, ground := Ground.data }, { on := 15, ground := Ground.data }], guard := none }) (v := .bool (shaN (listB [p, r]) == shaN (listB [q, r]))) rfl (by kernel_rfl) (by kernel_rfl) (by kernel_rfl) (fun _ _ _ h => h) (Or.inl ⟨by rfl, by intro w' hS; go_simp⟩) hH ?_
          simp only [Act.put, List.setIfInBounds_toArray, List.set_cons_zero, List.set_cons_succ]
          refine wpAnyH_take (i := 17) (oi := { dst := some 45, op := Op.binOp BinOp.neq 4 (Operand.tmp 30) (Operand.tmp 44) 4, type := 4, pos := "law.go:104", after := #[{ on := 2, ground := Ground.data }, { on := 16, ground := Ground.data }], guard := none }) (v := .bool false) rfl (by kernel_rfl) (by kernel_rfl) (by kernel_rfl) (fun _ _ _ h => h) (Or.inl ⟨by rfl, by intro w' hS; go_simp⟩) hH ?_
          simp only [Act.put, List.setIfInBounds_toArray, List.set_cons_zero, List.set_cons_succ]
          refine wpAnyH_done (by kernel_rfl) ?_ _
          have HKz := Lib.hid (HK5.out.below hH)
          have HBz := Lib.hid (HB5.out.trans (hH.mono HB5.out.size))
          clear hH HK5 HB5 HX5 HY5 HIX HIY f0 e1
          go_wp2_with fail
          refine (sum_two p q r (by omega) wz HKz.out).mono ?_
          rintro e v1 ⟨rfl, hb⟩
          have HK1 := Lib.hid (HKz.out.below hb)
          have HB1 := Lib.hid (HBz.out.trans (hb.mono HBz.out.size))
          clear hb HKz HBz
          have hcat := cat3 q r
          go_wp2_with fail
          refine (sum_one p (q ++ r) (by rw [List.length_append]; omega) v1 HK1.out).mono ?_
          rintro e v2 ⟨rfl, hb⟩
          have HB2 := Lib.hid (HB1.out.trans (hb.mono HB1.out.size))
          clear hb HK1 HB1
          have e2 := equal_sha (listB [p, q, r]) (listB [p, q ++ r])
          by_cases hne : (shaN (listB [p, q, r]) == shaN (listB [p, q ++ r])) = true
          · go_wp2_with fail
            refine (rsum_two p q r (by omega) v2).mono ?_
            rintro e v3 ⟨rfl, hb⟩
            have HB3 := Lib.hid (HB2.out.trans (hb.mono HB2.out.size))
            clear hb HB2
            go_wp2_with fail
            refine (rsum_one p (q ++ r) (by rw [List.length_append]; omega) v3).mono ?_
            rintro e v4 ⟨rfl, hb⟩
            have HB4 := Lib.hid (HB3.out.trans (hb.mono HB3.out.size))
            clear hb HB3
            go_wp2_with fail
            go_ret
            exact ⟨rfl, HB4.out⟩
          · have hne2 : (shaN (listB [p, q, r]) == shaN (listB [p, q ++ r])) = false := by simpa using hne
            clear hne
            go_wp2_with fail
            go_ret
            exact ⟨rfl, HB2.out⟩
      · skip
        rw [if_pos (by rfl)]
        go_simp
        obtain ⟨g2, hg2⟩ : ∃ x, x = w6.heap.size := ⟨_, rfl⟩
        obtain ⟨w7, hw7⟩ : ∃ x, x = w6.alloc (.cells #[.string ⟨r.toArray⟩] 9) := ⟨_, rfl⟩
        have HS2 : Hid (StrsAt (some ⟨g2, 0, none⟩) [r] w7) := Lib.hid (by rw [hw7, hg2]; exact at_one w6 r)
        have hb : Below w6.heap.size w6 w7 := by rw [hw7]; exact (Below.refl _ _).alloc (Nat.le_refl _) _
        rw [← hg2, ← hw7]
        refine hK.out _ _ (hH.trans (hb.mono hH.size)) (fun hH => ?_)
        clear hK K hb hw7 hg2
        try simp only [Act.put, List.setIfInBounds_toArray, List.set_cons_zero, List.set_cons_succ]
        refine wpAnyH_ready (rs := [9]) (by kernel_rfl) (by simp) ?_
        refine AllReadyH.cons (o := { dst := some 37, op := Op.buildSlice 29 1 #[(0, Operand.tmp 36)], type := 29, pos := "law.go:104", after := #[{ on := 8, ground := Ground.data }, { on := 6, ground := Ground.guard }], guard := some (6, false) }) rfl (fun K hK => ?_) AllReadyH.nil
        rw [if_pos (by rfl)]
        go_simp
        obtain ⟨g1, hg1⟩ : ∃ x, x = w7.heap.size := ⟨_, rfl⟩
        obtain ⟨w8, hw8⟩ : ∃ x, x = w7.alloc (.cells #[.string ⟨r.toArray⟩] 9) := ⟨_, rfl⟩
        have HS1 : Hid (StrsAt (some ⟨g1, 0, none⟩) [r] w8) := Lib.hid (by rw [hw8, hg1]; exact at_one w7 r)
        have hb : Below w7.heap.size w7 w8 := by rw [hw8]; exact (Below.refl _ _).alloc (Nat.le_refl _) _
        rw [← hg1, ← hw8]
        have HS2n := Lib.hid (HS2.out.below hb); clear HS2; have HS2 := HS2n; clear HS2n
        refine hK.out _ _ (hH.trans (hb.mono hH.size)) (fun hH => ?_)
        clear hK K hb hw8 hg1
        try simp only [Act.put, List.setIfInBounds_toArray, List.set_cons_zero, List.set_cons_succ]
        refine wpAnyH_ready (rs := [10]) (by kernel_rfl) (by simp) ?_
        refine AllReadyH.cons (o := { dst := some 38, op := Op.call { callee := Callee.value (Operand.func 15), args := #[Operand.tmp 35, Operand.tmp 37], argTypes := #[9, 29] }, type := 24, pos := "law.go:104", after := #[{ on := 7, ground := Ground.data }, { on := 9, ground := Ground.data }, { on := 6, ground := Ground.chain }, { on := 6, ground := Ground.guard }], guard := some (6, false) }) rfl (fun K hK => ?_) AllReadyH.nil
        rw [if_pos (by rfl)]
        go_simp
        refine (rsum_at p r _ w8 HS1.out (by omega)).mono ?_
        rintro e w9 ⟨rfl, hb⟩
        have HS2n := Lib.hid (HS2.out.below hb); clear HS2; have HS2 := HS2n; clear HS2n
        refine hK.out _ _ (hH.trans (hb.mono hH.size)) (fun hH => ?_)
        clear hK K hb
        try simp only [Act.put, List.setIfInBounds_toArray, List.set_cons_zero, List.set_cons_succ]
        refine wpAnyH_ready (rs := [14]) (by kernel_rfl) (by simp) ?_
        refine AllReadyH.cons (o := { dst := some 42, op := Op.call { callee := Callee.value (Operand.func 15), args := #[Operand.tmp 39, Operand.tmp 41], argTypes := #[9, 29] }, type := 24, pos := "law.go:104", after := #[{ on := 11, ground := Ground.data }, { on := 13, ground := Ground.data }, { on := 10, ground := Ground.chain }, { on := 6, ground := Ground.guard }], guard := some (6, false) }) rfl (fun K hK => ?_) AllReadyH.nil
        rw [if_pos (by rfl)]
        go_simp
        refine (rsum_at q r _ w9 HS2.out (by omega)).mono ?_
        rintro e wz ⟨rfl, hb⟩
        refine hK.out _ _ (hH.trans (hb.mono hH.size)) (fun hH => ?_)
        clear hK K hb
        try simp only [Act.put, List.setIfInBounds_toArray, List.set_cons_zero, List.set_cons_succ]
        refine wpAnyH_take (i := 15) (oi := { dst := some 43, op := Op.binOp BinOp.eql 24 (Operand.tmp 38) (Operand.tmp 42) 24, type := 4, pos := "law.go:104", after := #[{ on := 10, ground := Ground.data }, { on := 14, ground := Ground.data }, { on := 6, ground := Ground.guard }], guard := some (6, false) }) (v := .bool (shaN (listB [p, r]) == shaN (listB [q, r]))) rfl (by kernel_rfl) (by kernel_rfl) (by kernel_rfl) (fun _ _ _ h => h) (Or.inl ⟨by rfl, by intro w' hS; go_simp⟩) hH ?_
        simp only [Act.put, List.setIfInBounds_toArray, List.set_cons_zero, List.set_cons_succ]
        refine wpAnyH_take (i := 16) (oi := { dst := some 44, op := Op.pick (Operand.tmp 34) (Operand.const (Value.bool true)) (Operand.tmp 43), type := 4, pos := "law.go:104", after := #[{ on := 6, ground := Ground.data }, { on := 15, ground := Ground.data }], guard := none }) (v := .bool (shaN (listB [p, r]) == shaN (listB [q, r]))) rfl (by kernel_rfl) (by kernel_rfl) (by kernel_rfl) (fun _ _ _ h => h) (Or.inl ⟨by rfl, by intro w' hS; go_simp⟩) hH ?_
        simp only [Act.put, List.setIfInBounds_toArray, List.set_cons_zero, List.set_cons_succ]
        refine wpAnyH_take (i := 17) (oi := { dst := some 45, op := Op.binOp BinOp.neq 4 (Operand.tmp 30) (Operand.tmp 44) 4, type := 4, pos := "law.go:104", after := #[{ on := 2, ground := Ground.data }, { on := 16, ground := Ground.data }], guard := none }) (v := .bool false) rfl (by kernel_rfl) (by kernel_rfl) (by kernel_rfl) (fun _ _ _ h => h) (Or.inl ⟨by rfl, by intro w' hS; go_simp⟩) hH ?_
        simp only [Act.put, List.setIfInBounds_toArray, List.set_cons_zero, List.set_cons_succ]
        refine wpAnyH_done (by kernel_rfl) ?_ _
        have HKz := Lib.hid (HK5.out.below hH)
        have HBz := Lib.hid (HB5.out.trans (hH.mono HB5.out.size))
        clear hH HK5 HB5 HX5 HY5 HIX HIY f0 e1
        go_wp2_with fail
        refine (sum_two p q r (by omega) wz HKz.out).mono ?_
        rintro e v1 ⟨rfl, hb⟩
        have HK1 := Lib.hid (HKz.out.below hb)
        have HB1 := Lib.hid (HBz.out.trans (hb.mono HBz.out.size))
        clear hb HKz HBz
        have hcat := cat3 q r
        go_wp2_with fail
        refine (sum_one p (q ++ r) (by rw [List.length_append]; omega) v1 HK1.out).mono ?_
        rintro e v2 ⟨rfl, hb⟩
        have HB2 := Lib.hid (HB1.out.trans (hb.mono HB1.out.size))
        clear hb HK1 HB1
        have e2 := equal_sha (listB [p, q, r]) (listB [p, q ++ r])
        by_cases hne : (shaN (listB [p, q, r]) == shaN (listB [p, q ++ r])) = true
        · go_wp2_with fail
          refine (rsum_two p q r (by omega) v2).mono ?_
          rintro e v3 ⟨rfl, hb⟩
          have HB3 := Lib.hid (HB2.out.trans (hb.mono HB2.out.size))
          clear hb HB2
          go_wp2_with fail
          refine (rsum_one p (q ++ r) (by rw [List.length_append]; omega) v3).mono ?_
          rintro e v4 ⟨rfl, hb⟩
          have HB4 := Lib.hid (HB3.out.trans (hb.mono HB3.out.size))
          clear hb HB3
          go_wp2_with fail
          go_ret
          exact ⟨rfl, HB4.out⟩
        · have hne2 : (shaN (listB [p, q, r]) == shaN (listB [p, q ++ r])) = false := by simpa using hne
          clear hne
          go_wp2_with fail
          go_ret
          exact ⟨rfl, HB2.out⟩
end Go.Proofs.YtolnbifpnoghlaaDoor.shaPurposes
