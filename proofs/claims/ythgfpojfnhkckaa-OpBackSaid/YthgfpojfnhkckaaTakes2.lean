/-
  The document's own TakeText, TakeList, Split.
-/
import Derived.Test.YthgfpojfnhkckaaTakes
namespace Go.Proofs.Ythgfpojfnhkckaa
open Go.RowKit

theorem rtn_any (s : List UInt8) (w : World) (hm : s.length ≤ 9223372036854775000) :
    Calls Try.prog 46 #[.string ⟨s.toArray⟩] w fun e w' => e = .returned (.tuple #[.int .i64 ((takeNum s).getD (0, [])).1, .string ⟨((takeNum s).getD (0, [])).2.toArray⟩, .bool (takeNum s).isSome]) ∧ Below w.heap.size w w' := by
  cases s with
  | nil => exact rtn_nil w
  | cons k t =>
    simp only [List.length_cons] at hm
    by_cases h8 : k.toNat ≤ 8
    · by_cases hl : k.toNat ≤ t.length
      · exact rtn_digits k t w h8 hl (by omega)
      · rw [takeNum_short (by omega)]
        exact rtn_short k t w h8 (by omega)
    · rw [takeNum_big t (by omega)]
      exact rtn_big k t w (by omega)

theorem rtt_none (s : List UInt8) (w : World) (hm : s.length ≤ 9223372036854775000) (h : takeNum s = none) :
    Calls Try.prog 51 #[.string ⟨s.toArray⟩] w fun e w' => e = .returned (.tuple #[.string ⟨#[]⟩, .string ⟨#[]⟩, .bool false]) ∧ Below w.heap.size w w' := by
  have hc := rtn_any s w hm
  rw [h] at hc
  have HC := Lib.hid hc
  clear hc h
  go_enter Try.func51, Try.ntmps51
  go_wp2_with fail
  refine HC.out.mono ?_
  rintro e w1 ⟨rfl, hb⟩
  have HB := Lib.hid hb
  clear hb HC
  go_wp2_with fail
  go_ret3
  exact ⟨rfl, HB.out⟩

theorem rtt_num (s r : List UInt8) (n : Nat) (w : World) (hm : s.length ≤ 9223372036854775000) (h : takeNum s = some (n, r)) :
    Calls Try.prog 51 #[.string ⟨s.toArray⟩] w fun e w' => e = .returned (.tuple #[.string ⟨((takeText s).getD ([], [])).1.toArray⟩, .string ⟨((takeText s).getD ([], [])).2.toArray⟩, .bool (takeText s).isSome]) ∧ Below w.heap.size w w' := by
  have hc := rtn_any s w hm
  rw [h] at hc
  have hlt := takeNum_lt h
  have hrl := takeNum_len h
  have HC := Lib.hid hc
  have ht : takeText s = if n ≤ r.length then some (r.take n, r.drop n) else none := by simp only [takeText, h]
  clear hc h
  by_cases hn : n ≤ r.length
  · rw [if_pos hn] at ht
    rw [ht]
    clear ht
    go_enter Try.func51, Try.ntmps51
    go_wp2_with fail
    refine HC.out.mono ?_
    rintro e w1 ⟨rfl, hb⟩
    have HB := Lib.hid hb
    clear hb HC
    simp only [Option.getD_some, Option.isSome_some]
    go_wp2_with fail
    go_quiet (fail)
    go_wp2_with fail
    go_ret3
    rw [extract_head, extract_tail]
    exact ⟨rfl, drawn_below HB.out nq⟩
  · rw [if_neg hn] at ht
    rw [ht]
    clear ht
    go_enter Try.func51, Try.ntmps51
    go_wp2_with fail
    refine HC.out.mono ?_
    rintro e w1 ⟨rfl, hb⟩
    have HB := Lib.hid hb
    clear hb HC
    simp only [Option.getD_some, Option.isSome_some]
    go_wp2_with fail
    go_ret3
    exact ⟨rfl, HB.out⟩

theorem rtt_any (s : List UInt8) (w : World) (hm : s.length ≤ 9223372036854775000) :
    Calls Try.prog 51 #[.string ⟨s.toArray⟩] w fun e w' => e = .returned (.tuple #[.string ⟨((takeText s).getD ([], [])).1.toArray⟩, .string ⟨((takeText s).getD ([], [])).2.toArray⟩, .bool (takeText s).isSome]) ∧ Below w.heap.size w w' := by
  cases h : takeNum s with
  | none =>
    have ht : takeText s = none := by simp only [takeText, h]
    rw [ht]
    exact rtt_none s w hm h
  | some p => exact rtt_num s p.2 p.1 w hm h

/-- The list's texts, in memory of the call's own. -/
def ListPost (B : Nat) (o : Option (List (List UInt8) × List UInt8)) (e : Ending) (w' : World) : Prop :=
  ∃ v, e = .returned (.tuple #[v, .string ⟨(o.getD ([], [])).2.toArray⟩, .bool o.isSome]) ∧ OwnS B v (o.getD ([], [])).1 w'

theorem rtl_none (s : List UInt8) (w : World) (hm : s.length ≤ 9223372036854775000) (h : takeNum s = none) :
    Calls Try.prog 45 #[.string ⟨s.toArray⟩] w fun e w' => ListPost w.heap.size none e w' ∧ Below w.heap.size w w' := by
  have hc := rtn_any s w hm
  rw [h] at hc
  have HC := Lib.hid hc
  clear hc h
  go_enter Try.func45, Try.ntmps45
  go_wp2_with fail
  refine HC.out.mono ?_
  rintro e w1 ⟨rfl, hb⟩
  have HB := Lib.hid hb
  clear hb HC
  go_wp2_with fail
  go_ret3
  exact ⟨⟨_, rfl, OwnS.nil _ _⟩, HB.out⟩

theorem rtl_many (s r : List UInt8) (n : Nat) (w : World) (hm : s.length ≤ 9223372036854775000) (h : takeNum s = some (n, r)) (hn : 4096 < n) :
    Calls Try.prog 45 #[.string ⟨s.toArray⟩] w fun e w' => ListPost w.heap.size none e w' ∧ Below w.heap.size w w' := by
  have hc := rtn_any s w hm
  rw [h] at hc
  have hlt := takeNum_lt h
  have HC := Lib.hid hc
  clear hc h
  go_enter Try.func45, Try.ntmps45
  go_wp2_with fail
  refine HC.out.mono ?_
  rintro e w1 ⟨rfl, hb⟩
  have HB := Lib.hid hb
  clear hb HC
  simp only [Option.getD_some, Option.isSome_some]
  go_wp2_with fail
  go_ret3
  exact ⟨⟨_, rfl, OwnS.nil _ _⟩, HB.out⟩
end Go.Proofs.Ythgfpojfnhkckaa
