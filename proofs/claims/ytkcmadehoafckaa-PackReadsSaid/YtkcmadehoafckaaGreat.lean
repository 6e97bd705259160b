/-
  What the laws take for too much to be played; and whether two lists are the same.
-/
import Derived.Test.YtkcmadehoafckaaList
namespace Go.Proofs.Ytkcmadehoafckaa
open Go.RowKit

/-- The bytes of texts, together. -/
def total (l : List (List UInt8)) : Nat := (l.map List.length).sum
theorem total_snoc (l : List (List UInt8)) (t : List UInt8) : total (l ++ [t]) = total l + t.length := by simp [total]
theorem total_parts (l : List (List UInt8)) (q : Nat) (h : q < l.length) : total (l.take (q + 1)) = total (l.take q) + l[q].length := by
  rw [List.take_succ_eq_append_getElem h, total_snoc]
theorem total_take_le (l : List (List UInt8)) (q : Nat) : total (l.take q) ≤ total l := by
  have := List.take_append_drop q l
  have e : total l = total (l.take q) + total (l.drop q) := by
    have h2 := congrArg total this
    rw [← h2]; simp only [total, List.map_append, List.sum_append]
  omega

/-- More than is played. -/
def greatB (l : List (List UInt8)) : Bool := decide (8192 < total l ∨ 200 < l.length)

theorem greatB_rest {l : List (List UInt8)} (h : total l ≤ 8192) : greatB l = decide ((200 : Int) < l.length) := by
  unfold greatB
  rw [decide_eq_decide]
  omega

set_option maxHeartbeats 1000000 in
theorem great_any (ao : Option Addr) (cap : Nat) (l : List (List UInt8)) (w : World) (h : StrsAt ao l w) (hl : l.length ≤ 9223372036854775807) (ht : ∀ t ∈ l, t.length ≤ 9223372036854700000) :
    Calls Try.prog 12 #[.slice ao l.length cap] w fun e w' => e = .returned (.bool (greatB l)) ∧ w = w' := by
  have HS := Lib.hid h
  have HT := Lib.hid ht
  clear h ht
  go_enter Try.func12, Try.ntmps12
  go_wp2_with fail
  go_loop [3, 8] (fun n i => ∃ q : Nat, q ≤ l.length ∧ i = .int .i64 q ∧ n = .int .i64 (total (l.take q)) ∧ total (l.take q) ≤ 8192) (fun _ i => l.length - (intOf i).toNat)
  case atStart => exact ⟨0, Nat.zero_le _, rfl, by simp [total], by simp [total]⟩
  case round =>
    obtain ⟨q, hq, rfl, rfl, htot⟩ := hrel
    by_cases hlt : q < l.length
    · have hcell : ∃ b o, ao = some ⟨b, o, none⟩ ∧ w.cell? ⟨b, o + q, none⟩ = some (.string ⟨l[q].toArray⟩) := by
        rcases HS.out with h | ⟨b, o, ha, hb, hc⟩
        · subst h; simp at hlt
        · exact ⟨b, o, ha, hc q hlt⟩
      obtain ⟨cb, co, hao, hc⟩ := hcell
      have hlq : l[q].length ≤ 9223372036854700000 := HT.out _ (List.getElem_mem hlt)
      have HP := Lib.hid (total_parts l q hlt)
      have HL := Lib.hid (total_take_le l (q + 1))
      subst hao
      by_cases hbig : 8192 < total (l.take q) + l[q].length
      · go_wp2_with fail
        go_ret
        refine ⟨?_, rfl⟩
        have : greatB l = true := by unfold greatB; have := HP.out; have := HL.out; simp; omega
        rw [this]; rfl
      · go_wp2_with fail
        exact ⟨⟨q + 1, by omega, by go_num, by rw [HP.out]; go_num, by rw [HP.out]; omega⟩, by simp [intOf]; omega⟩
    · obtain rfl : q = l.length := by omega
      rw [List.take_length] at htot
      have HG := Lib.hid (greatB_rest htot)
      go_wp2_with fail
      go_ret
      exact ⟨by rw [HG.out]; rfl, rfl⟩

theorem drawn_below {B : Nat} {w w' : World} (h : Below B w w') (n : Nat) : Below B w (w'.drewN n) := ⟨h.os, h.tape, h.output, h.size, h.block⟩

theorem take_all {α : Type} {a b : List α} (hl : a.length = b.length) (h : a.take a.length = b.take a.length) : a = b := by
  rw [List.take_length, hl, List.take_length] at h
  exact h

theorem take_step {a b : List (List UInt8)} {q : Nat} (ha : q < a.length) (hb : q < b.length) (h : a.take q = b.take q) (he : a[q] = b[q]) : a.take (q + 1) = b.take (q + 1) := by
  rw [List.take_succ_eq_append_getElem ha, List.take_succ_eq_append_getElem hb, h, he]

theorem ne_at {a b : List (List UInt8)} {q : Nat} (ha : q < a.length) (hb : q < b.length) (he : ¬ a[q] = b[q]) : decide (a = b) = false := by
  rw [decide_eq_false_iff_not]
  rintro rfl
  exact he rfl

theorem toList_ne (a b : List UInt8) (h : ¬ a = b) : (a == b) = false := by simpa using h
theorem toList_eq' (a b : List UInt8) (h : a = b) : (a == b) = true := by simpa using h

theorem StrsAt.cell {ao : Option Addr} {l : List (List UInt8)} {w : World} (h : StrsAt ao l w) {q : Nat} (hq : q < l.length) : ∃ b o, ao = some ⟨b, o, none⟩ ∧ w.cell? ⟨b, o + q, none⟩ = some (.string ⟨l[q].toArray⟩) := by
  rcases h with h | ⟨b, o, ha, hb, hc⟩
  · subst h; simp at hq
  · exact ⟨b, o, ha, hc q hq⟩

theorem same_len (x y : Option Addr) (c d : Nat) (a b : List (List UInt8)) (w : World) (h : ¬ a.length = b.length) :
    Calls Try.prog 25 #[.slice x a.length c, .slice y b.length d] w fun e w' => e = .returned (.bool (decide (a = b))) ∧ Below w.heap.size w w' := by
  have e : decide (a = b) = false := by rw [decide_eq_false_iff_not]; rintro rfl; exact h rfl
  have ht : ((a.length : Int) == (b.length : Int)) = false := by simp; omega
  rw [e]
  clear e
  go_enter Try.func25, Try.ntmps25
  go_wp2_with fail
  go_ret
  exact ⟨rfl, Below.refl _ _⟩

set_option maxHeartbeats 1000000 in
theorem same_any (x y : Option Addr) (c d : Nat) (a b : List (List UInt8)) (w : World) (hx : StrsAt x a w) (hy : StrsAt y b w) (hl : a.length ≤ 9223372036854775807) :
    Calls Try.prog 25 #[.slice x a.length c, .slice y b.length d] w fun e w' => e = .returned (.bool (decide (a = b))) ∧ Below w.heap.size w w' := by
  by_cases h : a.length = b.length
  · have HX := Lib.hid hx
    have HY := Lib.hid hy
    have HL := Lib.hid h
    have ht : ((a.length : Int) == (b.length : Int)) = true := by simp; omega
    clear hx hy h
    go_enter Try.func25, Try.ntmps25
    go_wp2_with fail
    clear ht
    go_loopw [13] (fun i wr => ∃ q : Nat, q ≤ a.length ∧ i = .int .i64 q ∧ a.take q = b.take q ∧ Below w.heap.size w wr) (fun i _ => a.length - (intOf i).toNat)
    case atStart => exact ⟨0, Nat.zero_le _, rfl, by simp, Below.refl _ _⟩
    case round =>
      obtain ⟨q, hq, rfl, htk, hbel⟩ := hrel
      by_cases hlt : q < a.length
      · have hltb : q < b.length := by have := HL.out; omega
        obtain ⟨xb, xo, hxe, hxc⟩ := (HX.out.below hbel).cell hlt
        obtain ⟨yb, yo, hye, hyc⟩ := (HY.out.below hbel).cell hltb
        have HB := Lib.hid hbel
        have HT := Lib.hid htk
        subst hxe hye
        clear hbel htk
        by_cases he : a[q] = b[q]
        · have ht := toList_eq' _ _ he
          have HE := Lib.hid he
          clear he
          go_wp2_with fail
          go_quiet (fail)
          go_wp2_with fail
          exact ⟨⟨q + 1, by omega, by go_num, take_step hlt hltb HT.out HE.out, drawn_below HB.out nq⟩, by simp [intOf]; omega⟩
        · have ht := toList_ne _ _ he
          have HE := Lib.hid he
          clear he
          go_wp2_with fail
          go_quiet (fail)
          go_wp2_with fail
          go_ret
          exact ⟨by rw [ne_at hlt hltb HE.out]; rfl, drawn_below HB.out nq⟩
      · obtain rfl : q = a.length := by omega
        have HE := Lib.hid (take_all HL.out htk)
        have HB := Lib.hid hbel
        clear htk hbel
        go_wp2_with fail
        go_ret
        exact ⟨by rw [decide_eq_true HE.out]; rfl, HB.out⟩
  · exact same_len x y c d a b w h
end Go.Proofs.Ytkcmadehoafckaa
