/-
  The walk of the law ShaEnds.
-/
import Derived.Test.YtolnbifpnoghlaaDoorShaLaws
namespace Go.Proofs.YtolnbifpnoghlaaDoor.shaEnds
open Go.RowKit Go.BigFrame

theorem out_of (w : World) (hk : KAt w) (n c : Int) (hn : n < 0 ∨ 200 < n) (_wn : (Lit.int .i64 n).wf = true) :
    Calls Tryd.prog 4 #[.int .i64 n, .int .u8 c] w fun e w' => e = .returned (.bool true) ∧ Below w.heap.size w w' := by
  have HK := Lib.hid hk
  clear hk
  rcases hn with h | h
  · go_enter Tryd.func4, Tryd.ntmps4
    go_wp2_with fail
    refine (alive2_any w HK.out).mono ?_
    rintro e w1 ⟨rfl, hb1⟩
    have HB1 := Lib.hid hb1
    clear hb1
    go_wp2_with fail
    go_ret
    exact ⟨rfl, HB1.out⟩
  · have h0 : ¬ n < 0 := by omega
    go_enter Tryd.func4, Tryd.ntmps4
    go_wp2_with fail
    refine (alive2_any w HK.out).mono ?_
    rintro e w1 ⟨rfl, hb1⟩
    have HB1 := Lib.hid hb1
    clear hb1
    go_wp2_with fail
    go_ret
    exact ⟨rfl, HB1.out⟩

theorem conv_own {B g cp : Nat} {w : World} (l : List Nat) (hlt : ∀ x ∈ l, x < 256) (h : OwnN B 5 .u8 (.slice (some ⟨g, 0, none⟩) l.length cp) l w) :
    (convert 27 9 (.slice (some ⟨g, 0, none⟩) l.length cp)).run Tryd.prog w = .ok (.string ⟨(txt l).toArray⟩) w := by
  have hlen : l.length = (txt l).length := (txt_len _).symm
  have hc := World.ownsRow.cells h (g := g) rfl
  rw [hlen]
  refine run_convert_bytes_back _ _ _ 5 ⟨g, 0, none⟩ _ (txt l) Tryd.underlying27 Tryd.underlying5 Tryd.underlying9 ?_
  intro j hj
  refine hc j _ ?_
  have e : nums .u8 l = (txt l).map fun b => Value.int .u8 (b.toNat : Int) := by
    rw [← byteNs_nums, byteNs_txt hlt]
  rw [e, List.getElem?_map, List.getElem?_eq_getElem hj]
  rfl
theorem quiet_convert {P : Program} {o : Oper} {a : Act} {C : World → Prop} {K : Act → Prop} (t u : TypeId) (x : Operand) (ho : o.op = .convert t u x) (v r : Value) (hx : a.eval x = v)
    (hC : ∀ w, C w → (convert t u v).run P w = .ok r w) (hk : K (a.put o.dst r)) : o.quiet P a C K := by
  refine ⟨_, fun w hw => ?_, hk⟩
  unfold Oper.quietAt execOp
  simp only [ho, hx, Sem.run_bind, hC w hw, Result.andThen_ok, Sem.run_pure]
  exact ⟨rfl, rfl⟩

set_option maxHeartbeats 4000000 in
theorem within (w : World) (hk : KAt w) (n c : Nat) (hn : n ≤ 200) (hc : c < 256) :
    Calls Tryd.prog 4 #[.int .i64 n, .int .u8 c] w fun e w' => e = .returned (.bool true) ∧ Below w.heap.size w w' := by
  obtain ⟨i0, hi, hz0, hz1, hz2⟩ := info_parts Tryd.infoU8
  have HK := Lib.hid hk
  have hn0 : ¬ (n : Int) < 0 := by omega
  have hn2 : ¬ 200 < (n : Int) := by omega
  clear hk
  go_enter Tryd.func4, Tryd.ntmps4
  go_wp2_with fail
  refine (alive2_any w HK.out).mono ?_
  rintro e w1 ⟨rfl, hb1⟩
  have HB1 := Lib.hid hb1
  have HK1 := Lib.hid (HK.out.below hb1)
  clear hb1 HK
  go_wp2_with (at_make; refine wpList_make_full _ rfl _ _ 27 rfl w1.heap.size 5 i0 (.int .u8 0) 1 Tryd.underlying27 hi hz0 hz1 .i64 .i64 n n n rfl rfl rfl rfl (by rw [hz2]; omega) (by unfold maxLen; omega) (Nat.le_refl _) ?_)
  intro w2 ho hgrow
  rw [toList_madeCells_one] at ho
  have hb2 : Below w1.heap.size w1 w2 := (Below.refl w1.heap.size w1).grown hgrow (Nat.le_refl _) (by intro g hg; cases hg)
  have HO := Lib.hid (show OwnN w1.heap.size 5 .u8 (.slice (some ⟨w1.heap.size, 0, none⟩) n n) (List.replicate n 0) w2 by
    unfold OwnN
    rw [List.length_replicate, show nums .u8 (List.replicate n 0) = List.replicate n (Value.int .u8 0) by simp [nums]]
    exact ho)
  have HB2 := Lib.hid hb2
  clear ho hgrow hb2
  go_wp2_with fail
  go_loopw [19] (fun i wq => ∃ (q : Nat) (l : List Nat), q ≤ n ∧ i = .int .i64 q ∧ l.length = n ∧ (∀ x ∈ l, x < 256) ∧ OwnN w1.heap.size 5 .u8 (.slice (some ⟨w1.heap.size, 0, none⟩) n n) l wq ∧ Below w1.heap.size w1 wq) (fun i _ => n - (intOf i).toNat)
  case atStart => exact ⟨0, _, by omega, rfl, List.length_replicate, fun x hx => by have := List.eq_of_mem_replicate hx; omega, HO.out, HB2.out⟩
  case round =>
    clear HO HB2
    obtain ⟨q, l, hq, rfl, hl, hlt, ho, hb⟩ := hrel
    have HL := Lib.hid hl
    have HLT := Lib.hid hlt
    have HO := Lib.hid ho
    have HB2 := Lib.hid hb
    clear hl hlt ho hb
    by_cases hlq : q < n
    · have c1 := HO.out.cellN HL.out.symm q hlq
      have hf := HO.out.frozenAt HL.out.symm q
      obtain ⟨m, hm⟩ : ∃ m, m = 7 * q % 256 := ⟨_, rfl⟩
      have e1 : IntKind.i64.wrap (7 * (q : Int)) = 7 * (q : Int) := by rw [IntKind.wrap_i64]; omega
      have e2 : IntKind.u8.wrap (7 * (q : Int)) = (m : Int) := by rw [IntKind.wrap_u8]; omega
      have e3 := u8_xor_nat c m hc (by omega)
      have hx : c ^^^ m < 256 := Nat.xor_lt_two_pow (n := 8) hc (by omega)
      have HS := Lib.hid (HO.out.stored HL.out.symm q (c ^^^ m))
      have HX := Lib.hid hx
      generalize l.getD q 0 = y at c1
      generalize c ^^^ m = z at e3 HS HX
      have b1 : (q : Int) < (n : Int) := by omega
      clear hm hx
      go_wp2_with fail
      exact ⟨⟨q + 1, l.set q z, by omega, by go_num, by rw [List.length_set]; exact HL.out, fun x hx => by
        rcases List.mem_or_eq_of_mem_set hx with h | rfl
        · exact HLT.out x h
        · exact HX.out, HS.out, HB2.out.setCell (Nat.le_refl _) _⟩, by simp [intOf]; omega⟩
    · obtain rfl : q = n := by omega
      have hlen := HL.out
      subst hlen
      have HK3 := Lib.hid (HK1.out.below HB2.out)
      have hex : ∀ w', SS wr w' → (convert 27 9 (.slice (some ⟨w1.heap.size, 0, none⟩) l.length l.length)).run Tryd.prog w' = .ok (.string ⟨(txt l).toArray⟩) w' := fun w' h => conv_own l HLT.out (HO.out.below h.1)
      have HEX := Lib.hid hex
      have HTL := Lib.hid (show (txt l).length ≤ 140737488350000 by rw [txt_len]; omega)
      clear hex
      go_wp2_with fail
      have e1 := equal_sha (txt l) (txt l)
      refine wp_region_class (fun w' => SS wr w') (by kernel_rfl) (by kernel_rfl) (SS.start HK3.out) ?_
      repeat (first | (refine wpQuiet_want (by rfl) (fun K hK => ?_); refine quiet_convert 27 9 _ rfl _ _ rfl HEX.out ?_; refine hK _ ?_; clear hK K; simp only [Act.put, List.setIfInBounds_toArray, List.set_cons_zero, List.set_cons_succ]) | go_big_quiet_step ((intro hs; first | rfl | (go_at_call 11; exact (dev_of (txt l) _ HTL.out hs.2).mono fun e w' h => ⟨h.1, hs.next h.2⟩) | (go_at_call 12; exact (of_any (txt l) _ HTL.out).mono fun e w' h => ⟨h.1, hs.next h.2⟩))))
      refine wpQuiet_nil ?_
      intro w' hs'
      go_wp2_with fail
      go_ret
      exact ⟨rfl, HB1.out.trans ((HB2.out.trans (hs'.1.mono HB2.out.size)).mono HB1.out.size)⟩

theorem walk (w : World) (hk : KAt w) (n : Int) (wn : (Lit.int .i64 n).wf = true) (c : Int) (wc : (Lit.int .u8 c).wf = true) :
    Calls Tryd.prog 4 #[.int .i64 n, .int .u8 c] w fun e w' => e = .returned (.bool true) ∧ Below w.heap.size w w' := by
  by_cases h : n < 0 ∨ 200 < n
  · exact out_of w hk n c h wn
  · simp only [Lit.wf, Bool.and_eq_true, decide_eq_true_eq] at wc
    have h0 : 0 ≤ c := wc.1
    have h1 : c ≤ 255 := wc.2
    have h2 := within w hk n.toNat c.toNat (by omega) (by omega)
    rwa [show ((n.toNat : Nat) : Int) = n by omega, show ((c.toNat : Nat) : Int) = c by omega] at h2
end Go.Proofs.YtolnbifpnoghlaaDoor.shaEnds
