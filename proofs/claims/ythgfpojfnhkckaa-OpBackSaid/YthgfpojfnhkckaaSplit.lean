/-
  pack.Split.
-/
import Derived.Test.YthgfpojfnhkckaaReadEnd
import Derived.Test.YthgfpojfnhkckaaTakes3
import Derived.Test.YthgfpojfnhkckaaRlist
namespace Go.Proofs.Ythgfpojfnhkckaa
open Go.RowKit

def SplitEnd (B : Nat) (o : Option (List (List UInt8))) (e : Ending) (w' : World) : Prop :=
  ∃ v, e = .returned (.tuple #[v, .int .i64 (if o.isSome then 0 else 4)]) ∧ OwnS B v (o.getD []) w'

theorem endCode_split {s : List UInt8} (hs : ¬ 262144 < s.length) : endCode (rdList s).2.1 (rdList s).2.2 = if (splitB s).isSome then 0 else 4 := by
  unfold splitB rdList endCode
  rw [if_neg hs]
  cases h : takeList s with
  | none => simp
  | some p =>
    obtain ⟨l, r⟩ := p
    cases r <;> simp

theorem rdList_split {s : List UInt8} {l : List (List UInt8)} (h : splitB s = some l) : (rdList s).1 = l := by
  unfold splitB at h
  split at h
  · cases h
  · unfold rdList
    cases ht : takeList s with
    | none => rw [ht] at h; cases h
    | some p =>
      obtain ⟨l', r⟩ := p
      rw [ht] at h
      cases r with
      | nil => simpa using h
      | cons => cases h

theorem split_long (s : List UInt8) (w : World) (hm : s.length ≤ 9223372036854775807) (h : 262144 < s.length) :
    Calls Try.prog 30 #[.string ⟨s.toArray⟩] w fun e w' => SplitEnd w.heap.size (splitB s) e w' ∧ Below w.heap.size w w' := by
  have e : splitB s = none := by simp only [splitB, h, if_true]
  rw [e]
  go_enter Try.func30, Try.ntmps30
  go_wp2_with fail
  refine (open_long s _ h hm).mono ?_
  rintro e w1 ⟨rfl, hr, hb⟩
  have HR := Lib.hid hr
  have HB := Lib.hid hb
  clear hr hb
  go_wp2_with fail
  have c := rlist_any _ [] true _ HR.out (fun _ => rfl) (by simp)
  rw [show rdList [] = ([], [], true) from rfl] at c
  refine c.mono ?_
  rintro e w2 ⟨v, rfl, ho, hr2, hb2⟩
  have HR2 := Lib.hid hr2
  have HB2 := Lib.hid (hb2.toBelow HB.out (Nat.le_refl _) HB.out.size)
  clear c ho hr2 hb2 HR HB
  go_wp2_with fail
  refine (end_failed _ _ _ HR2.out).mono ?_
  rintro e w3 ⟨rfl, rfl⟩
  go_wp2_with fail
  go_ret2
  exact ⟨⟨_, rfl, OwnS.nil _ _⟩, HB2.out⟩

theorem split_any (s : List UInt8) (w : World) (hm : s.length ≤ 9223372036854775807) :
    Calls Try.prog 30 #[.string ⟨s.toArray⟩] w fun e w' => SplitEnd w.heap.size (splitB s) e w' ∧ Below w.heap.size w w' := by
  by_cases hlong : 262144 < s.length
  · exact split_long s w hm hlong
  · have HE := Lib.hid (endCode_split hlong)
    go_enter Try.func30, Try.ntmps30
    go_wp2_with fail
    refine (open_ok s _ (by omega)).mono ?_
    rintro e w1 ⟨rfl, hr, hb⟩
    have HR := Lib.hid hr
    have HB := Lib.hid hb
    clear hr hb
    go_wp2_with fail
    refine (rlist_any _ s false _ HR.out (fun h => by cases h) (by omega)).mono ?_
    rintro e w2 ⟨v, rfl, ho, hr2, hb2⟩
    have HR2 := Lib.hid hr2
    have HB2 := Lib.hid (hb2.toBelow HB.out (Nat.le_refl _) HB.out.size)
    have HO2 := Lib.hid (ho.mono HB.out.size)
    obtain ⟨ao, cap, rfl⟩ := ho.form
    clear ho hr2 hb2 HR HB
    go_wp2_with fail
    have c := end_any _ _ _ _ HR2.out
    rw [HE.out] at c
    cases hs : splitB s with
    | none =>
      rw [hs] at c
      have HS := Lib.hid hs
      clear hs
      refine c.mono ?_
      rintro e w3 ⟨rfl, rfl⟩
      clear c
      simp only [Option.isSome_none]
      go_wp2_with fail
      go_ret2
      rw [HS.out]
      exact ⟨⟨_, rfl, OwnS.nil _ _⟩, HB2.out⟩
    | some l =>
      have HL := Lib.hid (rdList_split hs)
      rw [hs] at c
      have HS := Lib.hid hs
      clear hs
      refine c.mono ?_
      rintro e w3 ⟨rfl, rfl⟩
      clear c
      simp only [Option.isSome_some]
      go_wp2_with fail
      go_ret2
      rw [HS.out]
      refine ⟨⟨_, rfl, ?_⟩, HB2.out⟩
      simp only [Option.getD_some]
      rw [← HL.out]
      exact HO2.out
end Go.Proofs.Ythgfpojfnhkckaa
