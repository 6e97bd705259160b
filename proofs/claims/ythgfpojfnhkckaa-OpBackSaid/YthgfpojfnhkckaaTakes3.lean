/-
  The document's own TakeList, Split.
-/
import Derived.Test.YthgfpojfnhkckaaTakes2
namespace Go.Proofs.Ythgfpojfnhkckaa
open Go.RowKit

theorem takeTexts_next {q : Nat} {r rest t r2 : List UInt8} {l : List (List UInt8)} (h : takeTexts q r = some (l, rest)) (ht : takeText rest = some (t, r2)) : takeTexts (q + 1) r = some (l ++ [t], r2) := by
  rw [takeTexts_succ, h]; simp only [ht]
theorem takeTexts_stop {q n : Nat} {r rest : List UInt8} {l : List (List UInt8)} (h : takeTexts q r = some (l, rest)) (ht : takeText rest = none) (hq : q < n) : takeTexts n r = none :=
  takeTexts_none_mono (k := q + 1) (by rw [takeTexts_succ, h]; simp only [ht]) n (by omega)

set_option maxHeartbeats 1000000 in
theorem rtl_texts (s r : List UInt8) (n : Nat) (w : World) (hm : s.length ≤ 9223372036854775000) (h : takeNum s = some (n, r)) (hn : n ≤ 4096) :
    Calls Try.prog 45 #[.string ⟨s.toArray⟩] w fun e w' => ListPost w.heap.size (takeTexts n r) e w' ∧ Below w.heap.size w w' := by
  have hc := rtn_any s w hm
  rw [h] at hc
  have hrl := takeNum_len h
  have HC := Lib.hid hc
  clear hc h
  obtain ⟨i0, hi, hz0, hz1, hz2⟩ := info_parts Try.infoString
  go_enter Try.func45, Try.ntmps45
  go_wp2_with fail
  refine HC.out.mono ?_
  rintro e w1 ⟨rfl, hb⟩
  have HB := Lib.hid hb
  clear hb HC
  simp only [Option.getD_some, Option.isSome_some]
  go_wp2_with fail
  go_loopw [6, 8, 9] (fun rs v i wr => ∃ (q : Nat) (l : List (List UInt8)) (rest : List UInt8), q ≤ n ∧ i = .int .i64 q ∧ rs = .string ⟨rest.toArray⟩ ∧ takeTexts q r = some (l, rest) ∧ OwnS w.heap.size v l wr ∧ Below w.heap.size w wr) (fun _ _ i _ => n - (intOf i).toNat)
  case atStart => exact ⟨0, [], r, Nat.zero_le _, rfl, rfl, rfl, OwnS.nil _ _, HB.out⟩
  case round =>
    obtain ⟨q, l, rest, hq, rfl, rfl, htk, hown, hbel⟩ := hrel
    have hll : l.length = q := (takeTexts_some _ _ _ _ htk).2
    have hrest := takeTexts_len htk
    have HT := Lib.hid htk
    have HL := Lib.hid hll
    have HO := Lib.hid hown
    have HB1 := Lib.hid hbel
    obtain ⟨ao, cap, hv⟩ := hown.form
    subst hv
    clear htk hll hown hbel
    by_cases hlt : q < n
    · have hct := rtt_any rest wr (by omega)
      cases htt : takeText rest with
      | none =>
        rw [htt] at hct
        have HN := Lib.hid (takeTexts_stop HT.out htt hlt)
        have HCT := Lib.hid hct
        clear hct htt
        go_wp2_with fail
        refine HCT.out.mono ?_
        rintro e w2 ⟨rfl, hb2⟩
        have HB2 := Lib.hid (HB1.out.trans (hb2.mono HB1.out.size))
        clear hb2 HCT HB1
        simp only [Option.getD_none, Option.isSome_none]
        go_wp2_with fail
        go_ret3
        rw [HN.out]
        exact ⟨⟨_, rfl, OwnS.nil _ _⟩, HB2.out⟩
      | some p =>
        obtain ⟨t, r2⟩ := p
        rw [htt] at hct
        have HN := Lib.hid (takeTexts_next HT.out htt)
        have HCT := Lib.hid hct
        have hll2 : l.length ≤ 4096 := by have := HL.out; omega
        clear hct htt
        go_wp2_with fail
        refine HCT.out.mono ?_
        rintro e w2 ⟨rfl, hb2⟩
        have HO2 := Lib.hid (HO.out.below hb2)
        have HB2 := Lib.hid (HB1.out.trans (hb2.mono HB1.out.size))
        have hsz := HB2.out.size
        clear hb2 HCT HB1 HO
        simp only [Option.getD_some, Option.isSome_some]
        go_wp2_with (at_builtin; refine wpList_append_own _ rfl _ _ 59 rfl w.heap.size 9 i0 (.string ⟨#[]⟩) 1 16 Try.underlying59 hi hz0 hz1 hz2 rfl (by decide) _ _ _ rfl (World.ownsRow.alloc HO2.out _) ⟨w2.heap.size, 0, none⟩ 1 1 [.string ⟨t.toArray⟩] rfl rfl ?c1 ?c2 ?c3 ?c4 ?c5 ?_)
        case c1 =>
          intro j u hj
          match j, hj with
          | 0, hj => simp at hj; subst hj; simp [Addr.add]
        case c2 => intro u hu; simp at hu; subst hu; rfl
        case c3 => unfold maxLen; omega
        case c4 => omega
        case c5 => simp; omega
        intro v' w3 hown' hgrow _
        have hrow : ∀ g, (Value.slice ao l.length cap).ownBlock = some g → w.heap.size ≤ g := fun g hg => (HO2.out.lt g hg).1
        have HB3 := Lib.hid ((HB2.out.alloc hsz _).grown hgrow (by simp; omega) hrow)
        have HO3 := Lib.hid (show OwnS w.heap.size v' (l ++ [t]) w3 by
          unfold OwnS
          rw [strs_snoc, List.length_append]
          exact hown')
        clear hown' hgrow hrow HO2 HB2 hsz
        go_wp2_with fail
        refine ⟨⟨q + 1, l ++ [t], r2, by omega, by go_num, rfl, HN.out, HO3.out, HB3.out⟩, by simp [intOf]; omega⟩
    · obtain rfl : q = n := by omega
      go_wp2_with fail
      go_ret3
      rw [HT.out]
      exact ⟨⟨_, rfl, HO.out⟩, HB1.out⟩

theorem rtl_any (s : List UInt8) (w : World) (hm : s.length ≤ 9223372036854775000) :
    Calls Try.prog 45 #[.string ⟨s.toArray⟩] w fun e w' => ListPost w.heap.size (takeList s) e w' ∧ Below w.heap.size w w' := by
  cases h : takeNum s with
  | none =>
    have ht : takeList s = none := by simp only [takeList, h]
    rw [ht]
    exact rtl_none s w hm h
  | some p =>
    obtain ⟨n, r⟩ := p
    by_cases hn : n ≤ 4096
    · have ht : takeList s = takeTexts n r := by simp only [takeList, h, hn, if_true]
      rw [ht]
      exact rtl_texts s r n w hm h hn
    · have ht : takeList s = none := by simp only [takeList, h, hn, if_false]
      rw [ht]
      exact rtl_many s r n w hm h (by omega)

/-- The list that bytes are. -/
def SplitPost (B : Nat) (o : Option (List (List UInt8))) (e : Ending) (w' : World) : Prop :=
  ∃ v, e = .returned (.tuple #[v, .bool o.isSome]) ∧ OwnS B v (o.getD []) w'

theorem rsplit_long (s : List UInt8) (w : World) (hm : s.length ≤ 9223372036854775000) (h : 262144 < s.length) :
    Calls Try.prog 33 #[.string ⟨s.toArray⟩] w fun e w' => SplitPost w.heap.size (splitB s) e w' ∧ Below w.heap.size w w' := by
  have e : splitB s = none := by simp only [splitB, h, if_true]
  rw [e]
  go_enter Try.func33, Try.ntmps33
  go_wp2_with fail
  go_ret2
  exact ⟨⟨_, rfl, OwnS.nil _ _⟩, Below.refl _ _⟩

theorem rsplit_any (s : List UInt8) (w : World) (hm : s.length ≤ 9223372036854775000) :
    Calls Try.prog 33 #[.string ⟨s.toArray⟩] w fun e w' => SplitPost w.heap.size (splitB s) e w' ∧ Below w.heap.size w w' := by
  by_cases hlong : 262144 < s.length
  · exact rsplit_long s w hm hlong
  · have HC := Lib.hid (rtl_any s w hm)
    cases ht : takeList s with
    | none =>
      have e : splitB s = none := by simp only [splitB, hlong, if_false, ht]
      rw [e]
      rw [ht] at HC
      clear e ht
      go_enter Try.func33, Try.ntmps33
      go_wp2_with fail
      refine HC.out.mono ?_
      rintro e w1 ⟨⟨v, rfl, ho⟩, hb⟩
      have HB := Lib.hid hb
      clear hb HC ho
      simp only [Option.getD_none, Option.isSome_none]
      go_wp2_with fail
      go_ret2
      exact ⟨⟨_, rfl, OwnS.nil _ _⟩, HB.out⟩
    | some p =>
      obtain ⟨l, r⟩ := p
      rw [ht] at HC
      cases r with
      | nil =>
        have e : splitB s = some l := by simp only [splitB, hlong, if_false, ht]
        rw [e]
        clear e ht
        go_enter Try.func33, Try.ntmps33
        go_wp2_with fail
        refine HC.out.mono ?_
        rintro e w1 ⟨⟨v, rfl, ho⟩, hb⟩
        have HB := Lib.hid hb
        have HO := Lib.hid ho
        clear hb HC ho
        simp only [Option.getD_some, Option.isSome_some]
        go_wp2_with fail
        go_ret2
        exact ⟨⟨_, rfl, HO.out⟩, HB.out⟩
      | cons c r =>
        have e : splitB s = none := by simp only [splitB, hlong, if_false, ht]
        rw [e]
        clear e ht
        go_enter Try.func33, Try.ntmps33
        go_wp2_with fail
        refine HC.out.mono ?_
        rintro e w1 ⟨⟨v, rfl, ho⟩, hb⟩
        have HB := Lib.hid hb
        clear hb HC ho
        simp only [Option.getD_some, Option.isSome_some]
        go_wp2_with fail
        go_ret2
        exact ⟨⟨_, rfl, OwnS.nil _ _⟩, HB.out⟩
end Go.Proofs.Ythgfpojfnhkckaa
