/-
  The developers' elems.
-/
import Derived.Test.YtcjjhddppcmgoaaDoorKeysSig
namespace Go.Proofs.YtcjjhddppcmgoaaDoor
open Go.RowKit Go.BigFrame

set_option maxHeartbeats 4000000 in
set_option maxRecDepth 100000 in
theorem dev_elems (s : List UInt8) (k : Nat) (w : World) (hs : s.length = 16 * k) (hk8 : k ≤ 1000000) :
    Calls Tryd.prog 41 #[.string ⟨s.toArray⟩] w fun e w' => (∃ v, e = .returned v ∧ OwnE w.heap.size 31 v (cutE s k) w') ∧ Below w.heap.size w w' := by
  obtain ⟨i0, hi, hz0, hz1, hz2⟩ := info_parts Tryd.infoE16
  have HIF := Lib.hid hi
  have HZ0 := Lib.hid hz0
  have HZ1 := Lib.hid hz1
  have HZ2 := Lib.hid hz2
  have HS := Shut.mk hs
  have hq : (s.length : Int) / 16 = (k : Int) := by omega
  have HQ := Lib.hid hq
  clear hi hz0 hz1 hz2 hs
  go_enter Tryd.func41, Tryd.ntmps41
  go_wp2_with (at_make; refine wpList_make_full _ rfl _ _ 36 rfl w.heap.size 31 i0 _ 16 Tryd.underlying36 HIF.out HZ0.out HZ1.out .i64 .i64 _ _ k rfl rfl (by first | rfl | exact HQ.out) (by first | rfl | exact HQ.out) (by rw [HZ2.out]; omega) (by unfold maxLen; omega) (Nat.le_refl _) ?_)
  intro w2 ho2 hg2
  have hb2 : Below w.heap.size w w2 := (Below.refl w.heap.size w).grown hg2 (Nat.le_refl _) (by intro g hg; cases hg)
  have HO2 := Lib.hid (show OwnE w.heap.size 31 (.slice (some ⟨w.heap.size, 0, none⟩) k k) (partC s k 0) w2 by rw [partC_zero]; exact OwnE.made ho2)
  have HB2 := Lib.hid hb2
  obtain ⟨g, hg⟩ : ∃ g, g = w.heap.size := ⟨_, rfl⟩
  rw [← hg] at HO2 ⊢
  have HGW := Lib.hid (show w.heap.size ≤ g by omega)
  have HGE := Shut.mk hg
  clear ho2 hg2 hb2 hg hq
  go_wp2_with fail
  go_loopw [11] (fun n wq => ∃ i : Nat, i ≤ k ∧ n = .int .i64 i ∧ OwnE g 31 (.slice (some ⟨g, 0, none⟩) k k) (partC s k i) wq ∧ Below w.heap.size w wq) (fun n _ => k - (intOf n).toNat)
  case atStart => exact ⟨0, by omega, rfl, HO2.out, HB2.out⟩
  case round =>
    clear HO2 HB2
    obtain ⟨i, hik, rfl, ho, hb⟩ := hrel
    have HO := Lib.hid ho
    have HB := Lib.hid hb
    clear ho hb
    by_cases hli : i < k
    · have hli2 : (i : Int) < (k : Int) := by omega
      have hlen := HS.out
      have hbd : (i : Int) * 16 ≤ (s.length : Int) := by omega
      have hcut : (⟨s.toArray⟩ : ByteArray).extract (i * 16) s.length = ⟨(s.drop (i * 16)).toArray⟩ := extract_tail s (i * 16)
      have hsl : (⟨s.toArray⟩ : ByteArray).size = s.length := by simp [ByteArray.size]
      have HPS := Shut.mk (partC_set s hli)
      have HPE := Lib.hid (partC_ok (s := s) (k := k) (i := i) (by omega))
      have HPL := Shut.mk (partC_len s (Nat.le_of_lt hli))
      have H16 := Lib.hid (show 16 ≤ (s.drop (i * 16)).length by rw [List.length_drop]; omega)
      have HPT := Shut.mk (show byteNs ((s.drop (i * 16)).take 16) = byteNs (part s i) by rw [part, Nat.mul_comm 16 i])
      obtain ⟨P0, hP0⟩ : ∃ P0, partC s k i = P0 := ⟨_, rfl⟩
      rw [hP0] at HPS HPE HPL HO
      clear hP0 hlen
      go_upto_region 5 with (fail)
      refine wp_region_class_tail (fun w' => Below wr.heap.size wr w') 8 (by kernel_rfl) (by kernel_rfl) (Below.refl _ _).drew ?_
      simp only [List.take_succ_cons, List.take_zero, List.drop_succ_cons, List.drop_zero]
      repeat go_big_quiet_step ((intro hs'; rfl))
      refine wpQuiet_nil ?_
      intro w4 hs4
      rw [hcut]
      have HO4 := Lib.hid (HO.out.below hs4)
      have HB4 := Lib.hid (HB.out.trans (hs4.mono HB.out.size))
      obtain ⟨S', hS'⟩ : ∃ S', s.drop (i * 16) = S' := ⟨_, rfl⟩
      rw [hS'] at H16 HPT ⊢
      clear hs4 HO HB hcut hsl hbd hS'
      go_wp2_with (refine wpList_copy_elem rfl (.tmp 17) (.tmp 21) 44 9 rfl 5 Tryd.underlying44 (by kernel_rfl) g g k k i (i * 16) 16 31 P0 S' HPL.out.symm (Nat.mul_comm _ _) rfl rfl HO4.out HPE.out hli H16.out ?_)
      intro w5 ho5 hb5
      have HO5 := Lib.hid (show OwnE g 31 (.slice (some ⟨g, 0, none⟩) k k) (partC s k (i + 1)) w5 by rw [← HPS.out, ← HPT.out]; exact ho5.out)
      have HB5 := Lib.hid (show Below w.heap.size w w5 from But.toBelow HB4.out hb5.out HGW.out HB4.out.size)
      clear ho5 hb5 HO4 HB4 HPS HPE HPL HPT
      go_wp2_with fail
      exact ⟨⟨i + 1, by omega, by go_num, HO5.out, HB5.out⟩, by simp [intOf]; omega⟩
    · obtain rfl : i = k := by omega
      have hnw : ¬ (i : Int) < (i : Int) := by omega
      rw [partC_full] at HO
      have HOr := Lib.hid (HO.out.mono HGW.out)
      clear HO
      go_wp2_with fail
      go_ret
      exact ⟨⟨_, rfl, HOr.out⟩, HB.out⟩

/-! ### Steps of a region whose order is open: guarded ones; a row of elements in new memory -/
/-- A guarded operation whose guard says yes. -/
theorem FreeStep.asked {P : Program} {ops : Array Oper} {Q : Exit → Act → World → Prop} {F : (Nat → Value) → Act} {Inv : (Nat → Bool) → (Nat → Value) → World → Prop} {o : Oper} {i : Nat} (j : Nat) (b : Bool) (hg : o.guard = some (j, b))
    (hy : ∀ V, V j = .bool b → yielded ops (F V).tmps j = some b) (hv : ∀ s V w, (∀ e ∈ o.after, Region.binds .any e = true → s e.on = true) → Inv s V w → V j = .bool b)
    (h : ∀ s V w, (∀ e ∈ o.after, Region.binds .any e = true → s e.on = true) → s i = false → Inv s V w → ∀ K : Act → World → Prop, (∀ v w', Inv (fun j => s j || j == i) (upd V i v) w' → K ((F V).put o.dst v) w') → OpWp P o (F V) w K Q) : FreeStep P ops Q F Inv o i := ⟨fun s V w hr hu hI K hK => by
  have hw : Region.wanted o (yielded ops (F V).tmps) = true := by simp [Region.wanted, hg, hy V (hv s V w hr hI)]
  rw [if_pos hw]
  exact (h s V w hr hu hI K hK).out⟩
/-- Number i has answered a row of elements. -/
def RowE (s : Nat → Bool) (V : Nat → Value) (i n : Nat) (L : List (List Nat)) (w : World) : Prop := s i = true → ∃ ao c, V i = .slice ao n c ∧ EAt ao L w
theorem RowE.none {V : Nat → Value} {i n : Nat} {L : List (List Nat)} {w : World} : RowE (fun _ => false) V i n L w := fun h => by cases h
theorem RowE.ne {s : Nat → Bool} {V : Nat → Value} {i j n : Nat} {L : List (List Nat)} {w w' : World} {u : Value} (h : RowE s V j n L w) (hne : j ≠ i) (hb : Below w.heap.size w w') : RowE (fun j => s j || j == i) (upd V i u) j n L w' := fun hs => by
  obtain ⟨ao, c, e, hk⟩ := h (seen_ne hne hs)
  exact ⟨ao, c, by rw [upd_ne V u hne]; exact e, hk.below hb⟩
theorem RowE.same {s : Nat → Bool} {V : Nat → Value} {i n : Nat} {L : List (List Nat)} {w : World} {ao : Option Addr} {c : Nat} (h : EAt ao L w) : RowE (fun j => s j || j == i) (upd V i (.slice ao n c)) i n L w :=
  fun _ => ⟨ao, c, upd_same _ _ _, h⟩
/-- '==' of two values. -/
theorem op_eqlv {P : Program} {o : Oper} {a : Act} {w : World} {K : Act → World → Prop} {Q : Exit → Act → World → Prop} (t u : TypeId) (x y : Operand) (ho : o.op = .binOp .eql t x y u) (vx vy : Value) (b : Bool) (hx : a.eval x = vx) (hy : a.eval y = vy)
    (hg : ∀ w, (eqGuard .eql t x y vx vy).run P w = .ok () w) (hr : ∀ w, (binOp .eql t vx vy).run P w = .ok (.bool b) w) (h : K (a.put o.dst (.bool b)) w) : OpWp P o a w K Q := by
  refine ⟨?_⟩
  unfold Oper.wp execOp
  simp only [ho, hx, hy, Sem.run_bind, Sem.run_pure, hg, hr, Result.andThen_ok]
  exact h
/-- The second of '&&', behind a first that says yes. -/
theorem op_pick_yes {P : Program} {o : Oper} {a : Act} {w : World} {K : Act → World → Prop} {Q : Exit → Act → World → Prop} (c x y : Operand) (ho : o.op = .pick c x y) (hc : a.eval c = .bool true) (v : Value) (hx : a.eval x = v) (h : K (a.put o.dst v) w) : OpWp P o a w K Q := by
  refine ⟨?_⟩
  unfold Oper.wp execOp
  simp only [ho, hc, hx, asBool, Sem.run_bind, Sem.run_pure, Result.andThen_ok, if_true]
  exact h
/-- A text's tail. -/
theorem op_slice_tail {P : Program} {o : Oper} {a : Act} {w : World} {K : Act → World → Prop} {Q : Exit → Act → World → Prop} (ty : TypeId) (x : Operand) (n : Nat) (ho : o.op = .slice ty x (some (.const (.int .i64 n))) none none) (s : List UInt8) (hx : a.eval x = .string ⟨s.toArray⟩)
    (hu : P.underlying ty = some .string) (hn : n ≤ s.length) (h : K (a.put o.dst (.string ⟨(s.drop n).toArray⟩)) w) : OpWp P o a w K Q := by
  have hr := run_slice_string_l (P := P) w ty ⟨s.toArray⟩ hu .i64 (n : Int) (by omega) (by show (n : Int) ≤ ((⟨s.toArray⟩ : ByteArray).size : Int); simp [ByteArray.size]; omega)
  rw [Int.toNat_natCast, show (⟨s.toArray⟩ : ByteArray).size = s.length by simp [ByteArray.size], extract_tail] at hr
  have hr2 := (run_sliceAt_string (P := P) w ty (.string ⟨s.toArray⟩) (some (.int .i64 (n : Int))) none none hu).trans hr
  refine ⟨?_⟩
  unfold Oper.wp execOp
  simp only [ho, Option.map_some, Option.map_none, show a.eval (.const (.int .i64 (n : Int))) = .int .i64 (n : Int) from rfl, hx, Sem.run_bind, Sem.run_pure, hr2, Result.andThen_ok]
  exact h
end Go.Proofs.YtcjjhddppcmgoaaDoor
