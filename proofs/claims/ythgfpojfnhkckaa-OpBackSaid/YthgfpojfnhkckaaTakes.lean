/-
  The document's own TakeNum, TakeText.
-/
import Derived.Test.YthgfpojfnhkckaaRnum
namespace Go.Proofs.Ythgfpojfnhkckaa
open Go.RowKit

theorem rtn_nil (w : World) :
    Calls Try.prog 46 #[.string ⟨#[]⟩] w fun e w' => e = .returned (.tuple #[.int .i64 0, .string ⟨#[]⟩, .bool false]) ∧ Below w.heap.size w w' := by
  go_enter Try.func46, Try.ntmps46
  go_wp2_with fail
  go_ret3
  exact ⟨rfl, Below.refl _ _⟩

theorem wrap_byte (k : UInt8) : wrap64 (k.toNat : Int) = (k.toNat : Int) := by
  have := k.toNat_lt
  unfold wrap64
  omega

theorem rtn_big (k : UInt8) (t : List UInt8) (w : World) (hk : 8 < k.toNat) :
    Calls Try.prog 46 #[.string ⟨(k :: t).toArray⟩] w fun e w' => e = .returned (.tuple #[.int .i64 0, .string ⟨#[]⟩, .bool false]) ∧ Below w.heap.size w w' := by
  have he0 : ∀ h, ((⟨(k :: t).toArray⟩ : ByteArray)[0]'h) = k := fun _ => rfl
  have hw := wrap_byte k
  have h255 : k.toNat ≤ 255 := by have := k.toNat_lt; omega
  have hd : decide ((8 : Int) < (k.toNat : Int)) = true := by simp; omega
  go_enter Try.func46, Try.ntmps46
  go_wp2_with fail
  go_ret3
  exact ⟨rfl, Below.refl _ _⟩

theorem rtn_short (k : UInt8) (t : List UInt8) (w : World) (hk : k.toNat ≤ 8) (hl : t.length < k.toNat) :
    Calls Try.prog 46 #[.string ⟨(k :: t).toArray⟩] w fun e w' => e = .returned (.tuple #[.int .i64 0, .string ⟨#[]⟩, .bool false]) ∧ Below w.heap.size w w' := by
  have he0 : ∀ h, ((⟨(k :: t).toArray⟩ : ByteArray)[0]'h) = k := fun _ => rfl
  have hw := wrap_byte k
  have hd : decide ((8 : Int) < (k.toNat : Int)) = false := by simp; omega
  have hd2 : decide ((t.length : Int) + 1 < 1 + (k.toNat : Int)) = true := by simp; omega
  go_enter Try.func46, Try.ntmps46
  go_wp2_with fail
  go_ret3
  exact ⟨rfl, Below.refl _ _⟩

theorem cons_at (k : UInt8) (t : List UInt8) (q : Nat) (hq : q < t.length) (h : q + 1 < (⟨(k :: t).toArray⟩ : ByteArray).size) : (⟨(k :: t).toArray⟩ : ByteArray)[q + 1] = t[q] := by
  simp [ByteArray.getElem_eq_getElem_data]

theorem extract_cons (k : UInt8) (t : List UInt8) (n : Nat) : (⟨(k :: t).toArray⟩ : ByteArray).extract (1 + n) (t.length + 1) = ⟨(t.drop n).toArray⟩ := by
  have := extract_tail (k :: t) (1 + n)
  rw [List.length_cons] at this
  rw [this, Nat.add_comm 1 n, List.drop_succ_cons]

set_option maxHeartbeats 1000000 in
theorem rtn_digits (k : UInt8) (t : List UInt8) (w : World) (hk : k.toNat ≤ 8) (hl : k.toNat ≤ t.length) (hm : t.length ≤ 9223372036854775000) :
    Calls Try.prog 46 #[.string ⟨(k :: t).toArray⟩] w fun e w' => e = .returned (.tuple #[.int .i64 ((takeNum (k :: t)).getD (0, [])).1, .string ⟨((takeNum (k :: t)).getD (0, [])).2.toArray⟩, .bool (takeNum (k :: t)).isSome]) ∧ Below w.heap.size w w' := by
  have he0 : ∀ h, ((⟨(k :: t).toArray⟩ : ByteArray)[0]'h) = k := fun _ => rfl
  have hw := wrap_byte k
  have hd : decide ((8 : Int) < (k.toNat : Int)) = false := by simp; omega
  have hd2 : decide ((t.length : Int) + 1 < 1 + (k.toNat : Int)) = false := by simp; omega
  go_enter Try.func46, Try.ntmps46
  go_wp2_with fail
  clear hd hd2
  go_loop [6, 7] (fun n i => ∃ q : Nat, q ≤ k.toNat ∧ i = .int .i64 (1 + q) ∧ n = .int .i64 (val (t.take q)) ∧ val (t.take q) < 9223372036854775808) (fun _ i => k.toNat + 1 - (intOf i).toNat)
  case atStart => exact ⟨0, Nat.zero_le _, rfl, rfl, by rw [List.take_zero]; decide⟩
  case round =>
    obtain ⟨q, hq, rfl, rfl, hval⟩ := hrel
    by_cases hlt : q < k.toNat
    · by_cases hov : 36028797018963967 < val (t.take q)
      · have HN := Lib.hid (takeNum_over hl hlt (by omega))
        go_wp2_with fail
        go_ret3
        rw [HN.out]
        exact ⟨rfl, Below.refl _ _⟩
      · have hat : ∀ h, ((⟨(k :: t).toArray⟩ : ByteArray)[q + 1]'h) = t[q]'(by omega) := fun h => cons_at k t q (by omega) h
        have hat2 : ∀ h, ((⟨(k :: t).toArray⟩ : ByteArray)[1 + q]'h) = t[q]'(by omega) := by intro h; simp only [Nat.add_comm 1 q]; exact cons_at k t q (by omega) _
        have hw2 := wrap_byte (t[q]'(by omega))
        have HV := Lib.hid (show val (t.take (q + 1)) = val (t.take q) * 256 + (t[q]'(by omega)).toNat by rw [List.take_succ_eq_append_getElem (by omega), val_snoc])
        have h255 := (t[q]'(by omega)).toNat_lt
        go_wp2_with fail
        exact ⟨⟨q + 1, by omega, by go_num, by rw [HV.out]; go_num, by rw [HV.out]; omega⟩, by simp [intOf]; omega⟩
    · obtain rfl : q = k.toNat := by omega
      have hneg : decide ((val (t.take k.toNat) : Int) < 0) = false := by simp
      by_cases h0 : k.toNat = 0
      · have HN := Lib.hid (takeNum_good hl hval (fun h => by omega))
        have hpos : decide (0 < k.toNat) = false := by simp; omega
        have hle : k.toNat ≤ 0 := by omega
        have HK := Lib.hid h0
        clear h0
        go_wp2_with fail
        go_quiet (fail)
        go_wp2_with fail
        go_ret3
        rw [extract_cons, HN.out]
        exact ⟨rfl, drawn_below (Below.refl _ _) nq⟩
      · have hpos : decide (0 < k.toNat) = true := by simp; omega
        have hat2 : ∀ h, ((⟨(k :: t).toArray⟩ : ByteArray)[1]'h) = t[0]'(by omega) := fun h => cons_at k t 0 (by omega) h
        by_cases hz : t[0]'(by omega) = 0
        · have HN := Lib.hid (takeNum_zero hl (by omega) hz)
          have hz1 : ((t[0]'(by omega)).toNat : Int) = 0 := by rw [hz]; rfl
          have hz2 : (((t[0]'(by omega)).toNat : Int) == 0) = true := by rw [hz]; rfl
          clear hz hz1
          go_wp2_with fail
          go_ret3
          rw [HN.out]
          exact ⟨rfl, Below.refl _ _⟩
        · have HN := Lib.hid (takeNum_good hl hval (fun h => hz))
          have hz2 : (((t[0]'(by omega)).toNat : Int) == 0) = false := by
            have : (t[0]'(by omega)).toNat ≠ 0 := fun e => hz (by rw [← UInt8.toNat_inj]; simpa using e)
            simp only [beq_eq_false_iff_ne, ne_eq]
            omega
          clear hz
          go_wp2_with fail
          go_quiet (fail)
          go_wp2_with fail
          go_ret3
          rw [extract_cons, HN.out]
          exact ⟨rfl, drawn_below (Below.refl _ _) nq⟩
end Go.Proofs.Ythgfpojfnhkckaa
