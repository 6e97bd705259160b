/-
  A reader's Num.
-/
import Derived.Test.YthgfpojfnhkckaaRead
import Derived.Test.YthgfpojfnhkckaaNum
import Derived.OpenShut
namespace Go.Proofs.Ythgfpojfnhkckaa
open Go.RowKit

theorem rnum_nil (w : World) :
    Calls Try.prog 32 #[.pointer none] w fun e w' => e = .returned (.int .i64 0) ∧ w = w' := by
  go_enter Try.func32, Try.ntmps32
  go_wp2_with fail
  go_ret
  exact ⟨rfl, rfl⟩

theorem head_byte (k : UInt8) : wrap64 ((({ data := #[k] } : ByteArray)[0]'(Nat.zero_lt_one)).toNat : Int) = (k.toNat : Int) := by
  have e : ({ data := #[k] } : ByteArray)[0]'(Nat.zero_lt_one) = k := rfl
  have := k.toNat_lt
  rw [e]
  unfold wrap64
  omega

theorem num_zero (w : World) : Calls Try.prog 38 #[.int .i64 0] w fun e w' => e = .returned (.string ⟨#[0]⟩) ∧ Below w.heap.size w w' := by
  have h := num_any 0 w (by decide)
  have e : numB 0 = [0] := by simp [numB, dig_zero]
  rw [e] at h
  exact h

theorem cat_toList (k : UInt8) (l : List UInt8) : (({ data := #[k] } : ByteArray) ++ { data := l.toArray }).toList = k :: l := by
  rw [ByteArray.toList_eq, ByteArray.data_append]
  simp

/-- Nothing is left. -/
theorem rnum_empty (b : Nat) (f : Bool) (w : World) (h : Rd b [] f w) :
    Calls Try.prog 32 #[.pointer (some ⟨b, 0, none⟩)] w fun e w' => e = .returned (.int .i64 0) ∧ Rd b [] true w' ∧ But b w w' := by
  go_enter Try.func32, Try.ntmps32
  go_wp2_with fail
  refine (take_few b [] f 1 _ h (by decide)).mono ?_
  rintro e w1 ⟨rfl, h1, hb1⟩
  have g1 := h1.cell1
  have H1 := Lib.hid h1
  have HB := Lib.hid hb1
  clear h1 hb1 h
  go_wp2_with fail
  go_ret
  exact ⟨rfl, H1.out, HB.out⟩

/-- The count of digits is more than there are. -/
theorem rnum_few (b : Nat) (k : UInt8) (t : List UInt8) (w : World) (h : Rd b (k :: t) false w) (hk : t.length < k.toNat) :
    Calls Try.prog 32 #[.pointer (some ⟨b, 0, none⟩)] w fun e w' => e = .returned (.int .i64 0) ∧ Rd b [] true w' ∧ But b w w' := by
  go_enter Try.func32, Try.ntmps32
  go_wp2_with fail
  refine (take_some b (k :: t) false 1 _ h (by simp)).mono ?_
  rintro e w1 ⟨rfl, h1, hb1⟩
  have g1 := h1.cell1
  have H1 := Lib.hid h1
  have HB := Lib.hid hb1
  clear h1 hb1 h
  go_wp2_with fail
  rw [show wrap64 ((({ data := #[k] } : ByteArray)[0]'(Nat.zero_lt_one)).toNat : Int) = (k.toNat : Int) from head_byte k]
  refine (take_few b _ false k.toNat _ H1.out (by simp; omega)).mono ?_
  rintro e w2 ⟨rfl, h2, hb2⟩
  have H2 := Lib.hid h2
  have HB2 := Lib.hid (HB.out.trans hb2)
  clear h2 hb2 H1 HB g1
  go_wp2_with fail
  refine wp_loop_rounds 1 ?_
  rw [rounds_succ]
  go_wp2_with fail
  refine (num_zero _).mono ?_
  rintro e w3 ⟨rfl, hb3⟩
  have H3 := Lib.hid (H2.out.below hb3)
  have HB3 := Lib.hid (HB2.out.below hb3)
  clear hb3 H2 HB2
  have htest : ([(0 : UInt8)] == (({ data := #[k] } : ByteArray) ++ { data := #[] }).toList) = false := by
    rw [cat_toList k []]
    have : k ≠ 0 := fun e => by subst e; exact Nat.not_lt_zero _ hk
    simpa using fun e => this e.symm
  clear hk
  go_wp2_with fail
  refine (fail_any b [] true _ H3.out).mono ?_
  rintro e w4 ⟨rfl, h4, hb4⟩
  have H4 := Lib.hid h4
  have HB4 := Lib.hid (HB3.out.trans hb4)
  clear h4 hb4 H3 HB3
  go_wp2_with fail
  go_ret
  exact ⟨rfl, H4.out, HB4.out⟩

/-- What the loop over the digits makes: a number, which is the digits' if that fits. -/
def Acc (l : List UInt8) (m : Int) : Prop := -9223372036854775808 ≤ m ∧ m ≤ 9223372036854775807 ∧ (val l < 9223372036854775808 → m = val l)

theorem i64_or_join (a d : Nat) (ha : a % 256 = 0) (hd : d < 256) (h : a + d < 9223372036854775808) : bits .or .i64 (a : Int) (d : Int) = ((a + d : Nat) : Int) := by
  have e : a ||| d = a + d := nat_join 8 a d ha hd
  have ea : (BitVec.ofInt 64 (a : Int)).toNat = a := ofInt_u64 a (by omega)
  have ed : (BitVec.ofInt 64 (d : Int)).toNat = d := ofInt_u64 d (by omega)
  show IntKind.i64.wrap ((BitVec.ofInt 64 (a : Int) ||| BitVec.ofInt 64 (d : Int)).toNat : Int) = _
  rw [BitVec.toNat_or, ea, ed, e, IntKind.wrap_i64]
  omega

theorem acc_step (l : List UInt8) (m : Int) (q : Nat) (hq : q < l.length) (h : Acc (l.take q) m) (hx : q < (⟨l.toArray⟩ : ByteArray).size) :
    Acc (l.take (q + 1)) (bits .or .i64 (wrap64 (m * 256)) (wrap64 ((⟨l.toArray⟩ : ByteArray)[q].toNat : Int))) := by
  have eb : (⟨l.toArray⟩ : ByteArray)[q] = l[q] := by simp [ByteArray.getElem_eq_getElem_data]
  have hd := l[q].toNat_lt
  rw [eb]
  have et : l.take (q + 1) = l.take q ++ [l[q]] := by rw [List.take_succ_eq_append_getElem hq]
  rw [et]
  have hw : (Lit.int .i64 (bits .or .i64 (wrap64 (m * 256)) (wrap64 (l[q].toNat : Int)))).wf = true := wf_bits _ _ _ _
  obtain ⟨w1, w2⟩ := bounds_i64 hw
  refine ⟨w1, w2, fun hv => ?_⟩
  rw [val_snoc] at hv ⊢
  have hm := h.2.2 (by omega)
  subst hm
  have e1 : wrap64 ((val (l.take q) : Int) * 256) = ((val (l.take q) * 256 : Nat) : Int) := by
    unfold wrap64; omega
  have e2 : wrap64 (l[q].toNat : Int) = (l[q].toNat : Int) := by unfold wrap64; omega
  rw [e1, e2, i64_or_join _ _ (by omega) (by omega) hv]

/-- As many digits as the first byte says. -/
theorem rnum_digits (b : Nat) (k : UInt8) (t : List UInt8) (w : World) (h : Rd b (k :: t) false w) (hk : k.toNat ≤ t.length) :
    Calls Try.prog 32 #[.pointer (some ⟨b, 0, none⟩)] w fun e w' => ∃ m, Acc (t.take k.toNat) m ∧
      if numB m.toNat = k :: t.take k.toNat then e = .returned (.int .i64 m) ∧ Rd b (t.drop k.toNat) false w' ∧ But b w w' else e = .returned (.int .i64 0) ∧ Rd b [] true w' ∧ But b w w' := by
  go_enter Try.func32, Try.ntmps32
  go_wp2_with fail
  refine (take_some b (k :: t) false 1 _ h (by simp)).mono ?_
  rintro e w1 ⟨rfl, h1, hb1⟩
  have g1 := h1.cell1
  have H1 := Lib.hid h1
  have HB := Lib.hid hb1
  clear h1 hb1 h
  go_wp2_with fail
  rw [show wrap64 ((({ data := #[k] } : ByteArray)[0]'(Nat.zero_lt_one)).toNat : Int) = (k.toNat : Int) from head_byte k]
  refine (take_some b _ false k.toNat _ H1.out (by simp; omega)).mono ?_
  rintro e w2 ⟨rfl, h2, hb2⟩
  have H2 := Lib.hid h2
  have HB2 := Lib.hid (HB.out.trans hb2)
  clear h2 hb2 H1 HB g1
  simp only [List.drop_one, List.tail_cons] at H2 ⊢
  have hlen : (t.take k.toNat).length ≤ 255 := by have := k.toNat_lt; simp; omega
  generalize hd : t.take k.toNat = ds at hlen ⊢
  have HD := Lib.hid hd
  clear hd hk
  go_wp2_with fail
  go_loop [5, 22] (fun n i => ∃ (q : Nat) (m : Int), q ≤ ds.length ∧ i = .int .i64 q ∧ n = .int .i64 m ∧ Acc (ds.take q) m) (fun _ i => ds.length - (intOf i).toNat)
  case atStart => exact ⟨0, 0, Nat.zero_le _, rfl, rfl, by decide, by decide, fun _ => rfl⟩
  case round =>
    obtain ⟨q, m, hq, rfl, rfl, hacc⟩ := hrel
    have HA := Lib.hid hacc
    have hlo := hacc.1
    have hhi := hacc.2.1
    clear hacc
    by_cases hlt : q < ds.length
    · go_wp2_with fail
      refine ⟨⟨q + 1, _, by omega, by go_num, rfl, acc_step ds m q hlt HA.out _⟩, by simp [intOf]; omega⟩
    · obtain rfl : q = ds.length := by omega
      go_wp2_with fail
      refine (num_int m _ hlo hhi).mono ?_
      rintro e w3 ⟨rfl, hb3⟩
      have H3 := Lib.hid (H2.out.below hb3)
      have HB3 := Lib.hid (HB2.out.below hb3)
      have HA2 := Lib.hid (show Acc ds m by simpa using HA.out)
      clear hb3 H2 HB2 HA
      by_cases heq : numB m.toNat = k :: ds
      · have htest : (numB m.toNat == (({ data := #[k] } : ByteArray) ++ { data := ds.toArray }).toList) = true := by rw [cat_toList k ds, heq]; simp
        have HE := Lib.hid heq
        clear heq
        go_wp2_with fail
        go_ret
        rw [HD.out]
        refine ⟨m, HA2.out, ?_⟩
        rw [if_pos HE.out]
        exact ⟨rfl, H3.out, HB3.out⟩
      · have htest : (numB m.toNat == (({ data := #[k] } : ByteArray) ++ { data := ds.toArray }).toList) = false := by rw [cat_toList k ds]; simpa using heq
        have HE := Lib.hid heq
        clear heq
        go_wp2_with fail
        refine (fail_any b _ false _ H3.out).mono ?_
        rintro e w4 ⟨rfl, h4, hb4⟩
        have H4 := Lib.hid h4
        have HB4 := Lib.hid (HB3.out.trans hb4)
        clear h4 hb4 H3 HB3
        go_wp2_with fail
        go_ret
        rw [HD.out]
        refine ⟨m, HA2.out, ?_⟩
        rw [if_neg HE.out]
        exact ⟨rfl, H4.out, HB4.out⟩

/-- What a reader's Num answers, and what it leaves. -/
def rdNum (s : List UInt8) : Nat × List UInt8 × Bool := match takeNum s with | some (n, r) => (n, r, false) | none => (0, [], true)

/-- A reader's Num: (f: it has failed; then nothing is left). -/
theorem rnum_any (b : Nat) (s : List UInt8) (f : Bool) (w : World) (h : Rd b s f w) (hf : f = true → s = []) :
    Calls Try.prog 32 #[.pointer (some ⟨b, 0, none⟩)] w fun e w' => e = .returned (.int .i64 (rdNum s).1) ∧ Rd b (rdNum s).2.1 (rdNum s).2.2 w' ∧ But b w w' := by
  cases s with
  | nil => exact rnum_empty b f w h
  | cons k t =>
    have f0 : f = false := by cases f with | false => rfl | true => cases hf rfl
    subst f0
    by_cases hk : k.toNat ≤ t.length
    · refine (rnum_digits b k t w h hk).mono ?_
      rintro e w' ⟨m, hacc, hpost⟩
      by_cases hv : val (t.take k.toNat) < 9223372036854775808
      · have hm := hacc.2.2 hv
        have hmn : m.toNat = val (t.take k.toNat) := by rw [hm]; rfl
        rw [hmn] at hpost
        by_cases heq : numB (val (t.take k.toNat)) = k :: t.take k.toNat
        · rw [if_pos heq] at hpost
          simp only [rdNum, takeNum, hk, hv, heq, and_self, if_true]
          rw [hm] at hpost
          exact hpost
        · rw [if_neg heq] at hpost
          simp only [rdNum, takeNum, hk, hv, heq, and_false, if_false]
          exact hpost
      · have hne : ¬ numB m.toNat = k :: t.take k.toNat := by
          intro he
          have h2 : dig m.toNat = t.take k.toNat := by simp only [numB, List.cons.injEq] at he; exact he.2
          have := hacc.2.1
          rw [← h2, val_dig] at hv
          omega
        rw [if_neg hne] at hpost
        simp only [rdNum, takeNum, hv, false_and, and_false, if_false]
        exact hpost
    · refine (rnum_few b k t w h (by omega)).mono ?_
      simp only [rdNum, takeNum, hk, false_and, if_false]
      exact fun e w' h => h
end Go.Proofs.Ythgfpojfnhkckaa
