/-
  The walk of the law PackSplits.
-/
import Derived.Test.YtkcmadehoafckaaAlive
import Derived.Test.YtkcmadehoafckaaSplit
namespace Go.Proofs.Ytkcmadehoafckaa.packSplits
open Go.RowKit

theorem walk_big (w : World) (s : List UInt8) (hm : s.length ≤ 9223372036854775807) (h : 4096 < s.length) :
    Calls Try.prog 5 #[.string ⟨s.toArray⟩] w fun e w' => e = .returned (.bool true) ∧ Below w.heap.size w w' := by
  go_enter Try.func5, Try.ntmps5
  go_wp2_with fail
  refine (alive_any _).mono ?_
  rintro e w1 ⟨rfl, hb1⟩
  have HB1 := Lib.hid hb1
  clear hb1
  go_wp2_with fail
  go_ret
  exact ⟨rfl, HB1.out⟩

theorem splitB_some {s : List UInt8} {l : List (List UInt8)} (h : splitB s = some l) : listB l = s := by
  unfold splitB at h
  split at h
  · cases h
  · cases ht : takeList s with
    | none => rw [ht] at h; cases h
    | some p =>
      obtain ⟨l', r⟩ := p
      rw [ht] at h
      cases r with
      | nil =>
        have e : l' = l := by simpa using h
        subst e
        have := (takeList_some ht).1
        rw [List.append_nil] at this
        exact this.symm
      | cons => cases h

set_option maxHeartbeats 1000000 in
theorem walk_some (w : World) (s : List UInt8) (l : List (List UInt8)) (h : s.length ≤ 4096) (hs : splitB s = some l) :
    Calls Try.prog 5 #[.string ⟨s.toArray⟩] w fun e w' => e = .returned (.bool true) ∧ Below w.heap.size w w' := by
  have HL := Lib.hid (splitB_some hs)
  have HS := Lib.hid hs
  clear hs
  go_enter Try.func5, Try.ntmps5
  go_wp2_with fail
  refine (alive_any _).mono ?_
  rintro e w1 ⟨rfl, hb1⟩
  have HB1 := Lib.hid hb1
  clear hb1
  go_wp2_with fail
  have c1 := split_any s w1 (by omega)
  rw [HS.out] at c1
  refine c1.mono ?_
  rintro e w2 ⟨⟨v, rfl, ho⟩, hb2⟩
  obtain ⟨ao, cap, rfl⟩ := ho.form
  have HO2 := Lib.hid ho
  have HB2 := Lib.hid (HB1.out.trans (hb2.mono HB1.out.size))
  clear c1 ho hb2 HB1
  simp only [Option.getD_some, Option.isSome_some]
  go_wp2_with fail
  have c2 := rsplit_any s w2 (by omega)
  rw [HS.out] at c2
  refine c2.mono ?_
  rintro e w3 ⟨⟨v, rfl, ho⟩, hb3⟩
  obtain ⟨ao2, cap2, rfl⟩ := ho.form
  have HO3 := Lib.hid ho
  have HB3 := Lib.hid (HB2.out.trans (hb3.mono HB2.out.size))
  have HO2' := Lib.hid (HO2.out.below hb3)
  clear c2 ho hb3 HB2 HO2
  simp only [Option.getD_some, Option.isSome_some]
  go_wp2_with fail
  have hll : l.length ≤ 4096 := by have := listB_length_ge l; rw [HL.out] at this; omega
  have c3 := same_any ao ao2 cap cap2 l l w3 (strsAt_own HO2'.out) (strsAt_own HO3.out) (by omega)
  rw [decide_eq_true (rfl : l = l)] at c3
  refine c3.mono ?_
  rintro e w4 ⟨rfl, hb4⟩
  have HB4 := Lib.hid (HB3.out.trans (hb4.mono HB3.out.size))
  have HO4 := Lib.hid (HO2'.out.below hb4)
  clear c3 hb4 HB3 HO2' HO3
  go_wp2_with fail
  have c4 := list_any ao cap l w4 (strsAt_own HO4.out) (by omega) (by rw [HL.out]; omega)
  rw [HL.out] at c4
  refine c4.mono ?_
  rintro e w5 ⟨rfl, hb5⟩
  have HB5 := Lib.hid (HB4.out.trans (hb5.mono HB4.out.size))
  clear c4 hb5 HB4 HO4
  go_wp2_with fail
  go_ret
  exact ⟨rfl, HB5.out⟩

set_option maxHeartbeats 1000000 in
theorem walk_none (w : World) (s : List UInt8) (h : s.length ≤ 4096) (hs : splitB s = none) :
    Calls Try.prog 5 #[.string ⟨s.toArray⟩] w fun e w' => e = .returned (.bool true) ∧ Below w.heap.size w w' := by
  have HS := Lib.hid hs
  clear hs
  go_enter Try.func5, Try.ntmps5
  go_wp2_with fail
  refine (alive_any _).mono ?_
  rintro e w1 ⟨rfl, hb1⟩
  have HB1 := Lib.hid hb1
  clear hb1
  go_wp2_with fail
  have c1 := split_any s w1 (by omega)
  rw [HS.out] at c1
  refine c1.mono ?_
  rintro e w2 ⟨⟨v, rfl, ho⟩, hb2⟩
  obtain ⟨ao, cap, rfl⟩ := ho.form
  have HO2 := Lib.hid ho
  have HB2 := Lib.hid (HB1.out.trans (hb2.mono HB1.out.size))
  clear c1 ho hb2 HB1
  simp only [Option.getD_none, Option.isSome_none]
  go_wp2_with fail
  have c2 := rsplit_any s w2 (by omega)
  rw [HS.out] at c2
  refine c2.mono ?_
  rintro e w3 ⟨⟨v, rfl, ho⟩, hb3⟩
  obtain ⟨ao2, cap2, rfl⟩ := ho.form
  have HO3 := Lib.hid ho
  have HB3 := Lib.hid (HB2.out.trans (hb3.mono HB2.out.size))
  have HO2' := Lib.hid (HO2.out.below hb3)
  clear c2 ho hb3 HB2 HO2
  simp only [Option.getD_none, Option.isSome_none]
  go_wp2_with fail
  have c3 := same_any ao ao2 cap cap2 [] [] w3 (Or.inl rfl) (Or.inl rfl) (by simp)
  rw [decide_eq_true (rfl : ([] : List (List UInt8)) = [])] at c3
  refine c3.mono ?_
  rintro e w4 ⟨rfl, hb4⟩
  have HB4 := Lib.hid (HB3.out.trans (hb4.mono HB3.out.size))
  clear c3 hb4 HB3 HO2' HO3
  go_wp2_with fail
  go_ret
  exact ⟨rfl, HB4.out⟩

theorem walk (w : World) (s : List UInt8) (hm : s.length ≤ 140737488351232) :
    Calls Try.prog 5 #[.string ⟨s.toArray⟩] w fun e w' => e = .returned (.bool true) ∧ Below w.heap.size w w' := by

  by_cases h : 4096 < s.length
  · exact walk_big w s (by omega) h
  · cases hs : splitB s with
    | none => exact walk_none w s (by omega) hs
    | some l => exact walk_some w s l (by omega) hs
end Go.Proofs.Ytkcmadehoafckaa.packSplits
