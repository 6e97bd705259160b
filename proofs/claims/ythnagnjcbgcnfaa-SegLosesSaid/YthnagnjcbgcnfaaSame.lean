/-
  Whether two lists are the same.
-/
import Derived.Test.YthnagnjcbgcnfaaBase
namespace Go.Proofs.Ythnagnjcbgcnfaa
open Go.RowKit

theorem take_all {α : Type} {a b : List α} (hl : a.length = b.length) (h : a.take a.length = b.take a.length) : a = b := by
  rw [List.take_length, hl, List.take_length] at h
  exact h

theorem take_step {a b : List (List UInt8)} {q : Nat} (ha : q < a.length) (hb : q < b.length) (h : a.take q = b.take q) (he : a[q] = b[q]) : a.take (q + 1) = b.take (q + 1) := by
  rw [List.take_succ_eq_append_getElem ha, List.take_succ_eq_append_getElem hb, h, he]

theorem ne_at {a b : List (List UInt8)} {q : Nat} (ha : q < a.length) (hb : q < b.length) (he : ¬ a[q] = b[q]) : decide (a = b) = false := by
  rw [decide_eq_false_iff_not]
  rintro rfl
  exact he rfl

theorem toList_ne (a b : List UInt8) (h : ¬ a = b) : (a == b) = false := by simpa using h
theorem toList_eq' (a b : List UInt8) (h : a = b) : (a == b) = true := by simpa using h

theorem same_len (x y : Option Addr) (c d : Nat) (a b : List (List UInt8)) (w : World) (h : ¬ a.length = b.length) :
    Calls Try.prog 13 #[.slice x a.length c, .slice y b.length d] w fun e w' => e = .returned (.bool (decide (a = b))) ∧ Below w.heap.size w w' := by
  have e : decide (a = b) = false := by rw [decide_eq_false_iff_not]; rintro rfl; exact h rfl
  have ht : ((a.length : Int) == (b.length : Int)) = false := by simp; omega
  rw [e]
  clear e
  go_enter Try.func13, Try.ntmps13
  go_wp2_with fail
  go_ret
  exact ⟨rfl, Below.refl _ _⟩

set_option maxHeartbeats 1000000 in
theorem same_any (x y : Option Addr) (c d : Nat) (a b : List (List UInt8)) (w : World) (hx : StrsAt x a w) (hy : StrsAt y b w) (hl : a.length ≤ 9223372036854775807) :
    Calls Try.prog 13 #[.slice x a.length c, .slice y b.length d] w fun e w' => e = .returned (.bool (decide (a = b))) ∧ Below w.heap.size w w' := by
  by_cases h : a.length = b.length
  · have HX := Lib.hid hx
    have HY := Lib.hid hy
    have HL := Lib.hid h
    have ht : ((a.length : Int) == (b.length : Int)) = true := by simp; omega
    clear hx hy h
    go_enter Try.func13, Try.ntmps13
    go_wp2_with fail
    clear ht
    go_loopw [13] (fun i wr => ∃ q : Nat, q ≤ a.length ∧ i = .int .i64 q ∧ a.take q = b.take q ∧ Below w.heap.size w wr) (fun i _ => a.length - (intOf i).toNat)
    case atStart => exact ⟨0, Nat.zero_le _, rfl, by simp, Below.refl _ _⟩
    case round =>
      obtain ⟨q, hq, rfl, htk, hbel⟩ := hrel
      by_cases hlt : q < a.length
      · have hltb : q < b.length := by have := HL.out; omega
        obtain ⟨xb, xo, hxe, hxc⟩ := (HX.out.below hbel).cell hlt
        obtain ⟨yb, yo, hye, hyc⟩ := (HY.out.below hbel).cell hltb
        have HB := Lib.hid hbel
        have HT := Lib.hid htk
        subst hxe hye
        clear hbel htk
        by_cases he : a[q] = b[q]
        · have ht := toList_eq' _ _ he
          have HE := Lib.hid he
          clear he
          go_wp2_with fail
          go_quiet (fail)
          go_wp2_with fail
          exact ⟨⟨q + 1, by omega, by go_num, take_step hlt hltb HT.out HE.out, drawn_below HB.out nq⟩, by simp [intOf]; omega⟩
        · have ht := toList_ne _ _ he
          have HE := Lib.hid he
          clear he
          go_wp2_with fail
          go_quiet (fail)
          go_wp2_with fail
          go_ret
          exact ⟨by rw [ne_at hlt hltb HE.out]; rfl, drawn_below HB.out nq⟩
      · obtain rfl : q = a.length := by omega
        have HE := Lib.hid (take_all HL.out htk)
        have HB := Lib.hid hbel
        clear htk hbel
        go_wp2_with fail
        go_ret
        exact ⟨by rw [decide_eq_true HE.out]; rfl, HB.out⟩
  · exact same_len x y c d a b w h
end Go.Proofs.Ythnagnjcbgcnfaa
