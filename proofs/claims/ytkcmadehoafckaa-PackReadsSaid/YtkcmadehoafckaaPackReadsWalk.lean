/-
  The walk of the law PackReads.
-/
import Derived.Test.YtkcmadehoafckaaLaws
namespace Go.Proofs.Ytkcmadehoafckaa.packReads
open Go.RowKit

/-- A slice of steps reads as these kinds. -/
def StepsAt (ao : Option Addr) (l : List Int) (w : World) : Prop :=
  l = [] ∨ ∃ b o, ao = some ⟨b, o, none⟩ ∧ b < w.heap.size ∧ ∀ j (h : j < l.length), w.cell? ⟨b, o + j, none⟩ = some (.int .i64 l[j])

theorem StepsAt.below {ao : Option Addr} {l : List Int} {w w' : World} (h : StepsAt ao l w) (k : Below w.heap.size w w') : StepsAt ao l w' := by
  rcases h with h | ⟨b, o, ha, hb, hc⟩
  · exact Or.inl h
  · exact Or.inr ⟨b, o, ha, Nat.lt_of_lt_of_le hb k.size, fun j hj => (k.cell (p := ⟨b, o + j, none⟩) hb).trans (hc j hj)⟩
theorem StepsAt.cell {ao : Option Addr} {l : List Int} {w : World} (h : StepsAt ao l w) {q : Nat} (hq : q < l.length) : ∃ b o, ao = some ⟨b, o, none⟩ ∧ w.cell? ⟨b, o + q, none⟩ = some (.int .i64 l[q]) := by
  rcases h with h | ⟨b, o, ha, hb, hc⟩
  · subst h; simp at hq
  · exact ⟨b, o, ha, hc q hq⟩

theorem big1 (w : World) (s : List UInt8) (ao : Option Addr) (ks : List Int) (c : Nat) (hs : s.length ≤ 140737488351232) (h : 4096 < s.length) :
    Calls Try.prog 4 #[.string ⟨s.toArray⟩, .slice ao ks.length c] w fun e w' => e = .returned (.bool true) ∧ Below w.heap.size w w' := by
  have hd : decide ((4096 : Int) < (s.length : Int)) = true := by simp; omega
  go_enter Try.func4, Try.ntmps4
  go_wp2_with fail
  refine (alive_any _).mono ?_
  rintro e w1 ⟨rfl, hb1⟩
  have HB1 := Lib.hid hb1
  clear hb1
  go_wp2_with fail
  go_ret
  exact ⟨rfl, HB1.out⟩

theorem big2 (w : World) (s : List UInt8) (ao : Option Addr) (ks : List Int) (c : Nat) (hn : ks.length ≤ 140737488351232) (h : s.length ≤ 4096) (h2 : 60 < ks.length) :
    Calls Try.prog 4 #[.string ⟨s.toArray⟩, .slice ao ks.length c] w fun e w' => e = .returned (.bool true) ∧ Below w.heap.size w w' := by
  have hd : decide ((4096 : Int) < (s.length : Int)) = false := by simp; omega
  have hd2 : decide ((60 : Int) < (ks.length : Int)) = true := by simp; omega
  go_enter Try.func4, Try.ntmps4
  go_wp2_with fail
  refine (alive_any _).mono ?_
  rintro e w1 ⟨rfl, hb1⟩
  have HB1 := Lib.hid hb1
  clear hb1
  go_wp2_with fail
  go_ret
  exact ⟨rfl, HB1.out⟩

set_option maxHeartbeats 4000000 in
set_option maxRecDepth 100000 in
theorem small (w : World) (s : List UInt8) (ao : Option Addr) (ks : List Int) (c : Nat) (hk : StepsAt ao ks w) (h : s.length ≤ 4096) (h2 : ks.length ≤ 60) :
    Calls Try.prog 4 #[.string ⟨s.toArray⟩, .slice ao ks.length c] w fun e w' => e = .returned (.bool true) ∧ Below w.heap.size w w' := by
  have hd : decide ((4096 : Int) < (s.length : Int)) = false := by simp; omega
  have hd2 : decide ((60 : Int) < (ks.length : Int)) = false := by simp; omega
  have HK := Lib.hid hk
  clear hk
  go_enter Try.func4, Try.ntmps4
  go_wp2_with fail
  refine (alive_any _).mono ?_
  rintro e w1 ⟨rfl, hb1⟩
  have HB1 := Lib.hid hb1
  clear hb1
  go_wp2_with fail
  refine (open_ok s _ (by omega)).mono ?_
  rintro e w2 ⟨rfl, hr2, hb2⟩
  have HR2 := Lib.hid hr2
  have HS := Lib.hid HB1.out.size
  have HB2 := Lib.hid (HB1.out.trans (hb2.mono HB1.out.size))
  clear hr2 hb2 HB1 hd hd2
  go_wp2_with fail
  go_loopw [6, 7, 29] (fun rs o i wr => ∃ (q : Nat) (rest : List UInt8) (ok : Bool), q ≤ ks.length ∧ i = .int .i64 q ∧ rs = .string ⟨rest.toArray⟩ ∧ o = .bool ok ∧ (ok = false → rest = []) ∧ rest.length ≤ 4096 ∧ Rd w1.heap.size rest (!ok) wr ∧ Below w.heap.size w wr) (fun _ _ i _ => ks.length - (intOf i).toNat)
  case atStart => exact ⟨0, s, true, Nat.zero_le _, rfl, rfl, rfl, (fun h => by cases h), h, HR2.out, HB2.out⟩
  case round =>
    obtain ⟨q, rest, ok, hq, rfl, rfl, rfl, hok, hlen, hrd, hbel⟩ := hrel
    have HR := Lib.hid hrd
    have HB := Lib.hid hbel
    have HOK := Lib.hid hok
    by_cases hlt : q < ks.length
    · obtain ⟨xb, xo, hxe, hxc⟩ := (HK.out.below hbel).cell hlt
      subst hxe
      clear hrd hbel hok
      generalize ks[q] = kind at hxc
-- ROUNDS
      by_cases hk0 : kind = 0
      · subst hk0
        cases ok with
        | true =>
          have hct := rtn_any rest (wr.alloc (.cells #[.int .i64 0] 34)) (by omega)
          have HBA := Lib.hid (HB.out.alloc HB.out.size (.cells #[.int .i64 0] 34))
          have HRA := Lib.hid (HR.out.below ((Below.refl _ _).alloc (Nat.le_refl _) (.cells #[.int .i64 0] 34)))
          cases ht : takeNum rest with
          | none =>
            rw [ht] at hct
            have HT := Lib.hid (show rdNum rest = (0, [], true) by simp only [rdNum, ht])
            have HCT := Lib.hid hct
            clear hct ht
            go_wp2_with fail
            refine HCT.out.mono ?_
            rintro e w4 ⟨rfl, hb4⟩
            have HR4 := Lib.hid (HRA.out.below hb4)
            have HB4 := Lib.hid (HBA.out.trans (hb4.mono HBA.out.size))
            clear hb4 HRA HBA HCT
            simp only [Option.getD_none, Option.isSome_none]
            go_wp2_with fail
            have c2 := rnum_any _ rest false _ HR4.out (fun h => by cases h)
            rw [HT.out] at c2
            refine c2.mono ?_
            rintro e w5 ⟨rfl, hr2, hb2⟩
            have HR3 := Lib.hid hr2
            have HB3 := Lib.hid (hb2.toBelow HB4.out HS.out HB4.out.size)
            clear c2 hr2 hb2 HR4 HB4
            go_wp2_with fail
            refine (rnum_nil _).mono ?_
            rintro e w6 ⟨rfl, rfl⟩
            go_wp2_with fail
            refine (end_failed _ _ _ HR3.out).mono ?_
            rintro e w7 ⟨rfl, rfl⟩
            go_wp2_with fail
            exact ⟨⟨q + 1, [], false, by omega, by go_num, rfl, rfl, fun _ => rfl, by simp, HR3.out, HB3.out⟩, by simp [intOf]; omega⟩
          | some p =>
            obtain ⟨n, r⟩ := p
            rw [ht] at hct
            have hrl := takeNum_len ht
            have HT := Lib.hid (show rdNum rest = (n, r, false) by simp only [rdNum, ht])
            have HCT := Lib.hid hct
            clear hct ht
            go_wp2_with fail
            refine HCT.out.mono ?_
            rintro e w4 ⟨rfl, hb4⟩
            have HR4 := Lib.hid (HRA.out.below hb4)
            have HB4 := Lib.hid (HBA.out.trans (hb4.mono HBA.out.size))
            clear hb4 HRA HBA HCT
            simp only [Option.getD_some, Option.isSome_some]
            go_wp2_with fail
            have c2 := rnum_any _ rest false _ HR4.out (fun h => by cases h)
            rw [HT.out] at c2
            refine c2.mono ?_
            rintro e w5 ⟨rfl, hr2, hb2⟩
            have HR3 := Lib.hid hr2
            have HB3 := Lib.hid (hb2.toBelow HB4.out HS.out HB4.out.size)
            clear c2 hr2 hb2 HR4 HB4
            go_wp2_with fail
            refine (rnum_nil _).mono ?_
            rintro e w6 ⟨rfl, rfl⟩
            by_cases hr : r = []
            · subst hr
              go_wp2_with fail
              refine (end_ok _ _ HR3.out).mono ?_
              rintro e w7 ⟨rfl, rfl⟩
              go_wp2_with fail
              exact ⟨⟨q + 1, [], true, by omega, by go_num, rfl, rfl, fun h => rfl, by simp, HR3.out, HB3.out⟩, by simp [intOf]; omega⟩
            · have HNE := Lib.hid hr
              have hem : r.isEmpty = false := by cases r <;> simp_all
              clear hr
              go_wp2_with fail
              refine (end_rest _ _ _ HR3.out HNE.out).mono ?_
              rintro e w7 ⟨rfl, rfl⟩
              go_wp2_with fail
              exact ⟨⟨q + 1, r, true, by omega, by go_num, rfl, rfl, (fun h => by cases h), by omega, HR3.out, HB3.out⟩, by simp [intOf]; omega⟩
        | false =>
          have hre := HOK.out rfl
          subst hre
          have HBA := Lib.hid (HB.out.alloc HB.out.size (.cells #[.int .i64 0] 34))
          have HRA := Lib.hid (HR.out.below ((Below.refl _ _).alloc (Nat.le_refl _) (.cells #[.int .i64 0] 34)))
          go_wp2_with fail
          have c2 := rnum_any _ [] true _ HRA.out (fun _ => rfl)
          rw [show rdNum [] = (0, [], true) from rfl] at c2
          refine c2.mono ?_
          rintro e w5 ⟨rfl, hr2, hb2⟩
          have HR3 := Lib.hid hr2
          have HB3 := Lib.hid (hb2.toBelow HBA.out HS.out HBA.out.size)
          clear c2 hr2 hb2 HRA HBA
          go_wp2_with fail
          refine (rnum_nil _).mono ?_
          rintro e w6 ⟨rfl, rfl⟩
          go_wp2_with fail
          refine (end_failed _ _ _ HR3.out).mono ?_
          rintro e w7 ⟨rfl, rfl⟩
          go_wp2_with fail
          exact ⟨⟨q + 1, [], false, by omega, by go_num, rfl, rfl, fun _ => rfl, by simp, HR3.out, HB3.out⟩, by simp [intOf]; omega⟩
      by_cases hk1 : kind = 1
      · subst hk1
        cases ok with
        | true =>
          have hct := rtt_any rest (wr.alloc (.cells #[.int .i64 1] 34)) (by omega)
          have HBA := Lib.hid (HB.out.alloc HB.out.size (.cells #[.int .i64 1] 34))
          have HRA := Lib.hid (HR.out.below ((Below.refl _ _).alloc (Nat.le_refl _) (.cells #[.int .i64 1] 34)))
          cases ht : takeText rest with
          | none =>
            rw [ht] at hct
            have HT := Lib.hid (show rdText rest = ([], [], true) by simp only [rdText, ht])
            have HCT := Lib.hid hct
            clear hct ht
            go_wp2_with fail
            refine HCT.out.mono ?_
            rintro e w4 ⟨rfl, hb4⟩
            have HR4 := Lib.hid (HRA.out.below hb4)
            have HB4 := Lib.hid (HBA.out.trans (hb4.mono HBA.out.size))
            clear hb4 HRA HBA HCT
            simp only [Option.getD_none, Option.isSome_none]
            go_wp2_with fail
            have c2 := rtext_any _ rest false _ HR4.out (fun h => by cases h) (by omega)
            rw [HT.out] at c2
            refine c2.mono ?_
            rintro e w5 ⟨rfl, hr2, hb2⟩
            have HR3 := Lib.hid hr2
            have HB3 := Lib.hid (hb2.toBelow HB4.out HS.out HB4.out.size)
            clear c2 hr2 hb2 HR4 HB4
            go_wp2_with fail
            refine (rtext_nil _).mono ?_
            rintro e w6 ⟨rfl, rfl⟩
            go_wp2_with fail
            refine (end_failed _ _ _ HR3.out).mono ?_
            rintro e w7 ⟨rfl, rfl⟩
            go_wp2_with fail
            exact ⟨⟨q + 1, [], false, by omega, by go_num, rfl, rfl, fun _ => rfl, by simp, HR3.out, HB3.out⟩, by simp [intOf]; omega⟩
          | some p =>
            obtain ⟨n, r⟩ := p
            rw [ht] at hct
            have hrl := takeText_len ht
            have HT := Lib.hid (show rdText rest = (n, r, false) by simp only [rdText, ht])
            have HCT := Lib.hid hct
            clear hct ht
            go_wp2_with fail
            refine HCT.out.mono ?_
            rintro e w4 ⟨rfl, hb4⟩
            have HR4 := Lib.hid (HRA.out.below hb4)
            have HB4 := Lib.hid (HBA.out.trans (hb4.mono HBA.out.size))
            clear hb4 HRA HBA HCT
            simp only [Option.getD_some, Option.isSome_some]
            go_wp2_with fail
            have c2 := rtext_any _ rest false _ HR4.out (fun h => by cases h) (by omega)
            rw [HT.out] at c2
            refine c2.mono ?_
            rintro e w5 ⟨rfl, hr2, hb2⟩
            have HR3 := Lib.hid hr2
            have HB3 := Lib.hid (hb2.toBelow HB4.out HS.out HB4.out.size)
            clear c2 hr2 hb2 HR4 HB4
            go_wp2_with fail
            refine (rtext_nil _).mono ?_
            rintro e w6 ⟨rfl, rfl⟩
            by_cases hr : r = []
            · subst hr
              go_wp2_with fail
              refine (end_ok _ _ HR3.out).mono ?_
              rintro e w7 ⟨rfl, rfl⟩
              go_wp2_with fail
              exact ⟨⟨q + 1, [], true, by omega, by go_num, rfl, rfl, fun h => rfl, by simp, HR3.out, HB3.out⟩, by simp [intOf]; omega⟩
            · have HNE := Lib.hid hr
              have hem : r.isEmpty = false := by cases r <;> simp_all
              clear hr
              go_wp2_with fail
              refine (end_rest _ _ _ HR3.out HNE.out).mono ?_
              rintro e w7 ⟨rfl, rfl⟩
              go_wp2_with fail
              exact ⟨⟨q + 1, r, true, by omega, by go_num, rfl, rfl, (fun h => by cases h), by omega, HR3.out, HB3.out⟩, by simp [intOf]; omega⟩
        | false =>
          have hre := HOK.out rfl
          subst hre
          have HBA := Lib.hid (HB.out.alloc HB.out.size (.cells #[.int .i64 1] 34))
          have HRA := Lib.hid (HR.out.below ((Below.refl _ _).alloc (Nat.le_refl _) (.cells #[.int .i64 1] 34)))
          go_wp2_with fail
          have c2 := rtext_any _ [] true _ HRA.out (fun _ => rfl) (by simp)
          rw [show rdText [] = ([], [], true) from rfl] at c2
          refine c2.mono ?_
          rintro e w5 ⟨rfl, hr2, hb2⟩
          have HR3 := Lib.hid hr2
          have HB3 := Lib.hid (hb2.toBelow HBA.out HS.out HBA.out.size)
          clear c2 hr2 hb2 HRA HBA
          go_wp2_with fail
          refine (rtext_nil _).mono ?_
          rintro e w6 ⟨rfl, rfl⟩
          go_wp2_with fail
          refine (end_failed _ _ _ HR3.out).mono ?_
          rintro e w7 ⟨rfl, rfl⟩
          go_wp2_with fail
          exact ⟨⟨q + 1, [], false, by omega, by go_num, rfl, rfl, fun _ => rfl, by simp, HR3.out, HB3.out⟩, by simp [intOf]; omega⟩
      by_cases hk2 : kind = 2
      · subst hk2
        cases ok with
        | true =>
          have hct := rtl_any rest (wr.alloc (.cells #[.int .i64 2] 34)) (by omega)
          have HBA := Lib.hid (HB.out.alloc HB.out.size (.cells #[.int .i64 2] 34))
          have HRA := Lib.hid (HR.out.below ((Below.refl _ _).alloc (Nat.le_refl _) (.cells #[.int .i64 2] 34)))
          cases ht : takeList rest with
          | none =>
            rw [ht] at hct
            have HT := Lib.hid (show rdList rest = ([], [], true) by simp only [rdList, ht])
            have HCT := Lib.hid hct
            clear hct ht
            go_wp2_with fail
            refine HCT.out.mono ?_
            rintro e w4 ⟨⟨v1, rfl, ho1⟩, hb4⟩
            obtain ⟨ao1, cap1, rfl⟩ := ho1.form
            have HR4 := Lib.hid (HRA.out.below hb4)
            have HB4 := Lib.hid (HBA.out.trans (hb4.mono HBA.out.size))
            clear hb4 HRA HBA HCT ho1
            simp only [Option.getD_none, Option.isSome_none, List.length_nil]
            go_wp2_with fail
            have c2 := rlist_any _ rest false _ HR4.out (fun h => by cases h) (by first | omega | simp)
            rw [HT.out] at c2
            refine c2.mono ?_
            rintro e w5 ⟨v2, rfl, ho2, hr2, hb2⟩
            obtain ⟨ao2, cap2, rfl⟩ := ho2.form
            have HR3 := Lib.hid hr2
            have HB3 := Lib.hid (hb2.toBelow HB4.out HS.out HB4.out.size)
            have HO2 := Lib.hid ho2
            have HS1 := Lib.hid (show StrsAt ao1 [] w5 from Or.inl rfl)
            clear c2 ho2 hr2 hb2 HR4 HB4
            go_wp2_with fail
            have c3 := same_any ao2 ao1 cap2 cap1 [] [] w5 (strsAt_own HO2.out) HS1.out (by simp)
            rw [decide_eq_true (rfl : ([] : List (List UInt8)) = [])] at c3
            refine c3.mono ?_
            rintro e w6 ⟨rfl, hb6⟩
            have HR6 := Lib.hid (HR3.out.below hb6)
            have HB6 := Lib.hid (HB3.out.trans (hb6.mono HB3.out.size))
            clear c3 hb6 HR3 HB3 HO2 HS1
            go_wp2_with fail
            refine (rlist_nil _).mono ?_
            rintro e w7 ⟨rfl, rfl⟩
            go_wp2_with fail
            refine (end_failed _ _ _ HR6.out).mono ?_
            rintro e w8 ⟨rfl, rfl⟩
            go_wp2_with fail
            exact ⟨⟨q + 1, [], false, by omega, by go_num, rfl, rfl, fun _ => rfl, by simp, HR6.out, HB6.out⟩, by simp [intOf]; omega⟩
          | some p =>
            obtain ⟨l, r⟩ := p
            rw [ht] at hct
            have hrl : r.length ≤ rest.length := by rw [(takeList_some ht).1]; simp
            have hll := (takeList_some ht).2
            have HT := Lib.hid (show rdList rest = (l, r, false) by simp only [rdList, ht])
            have HCT := Lib.hid hct
            clear hct ht
            go_wp2_with fail
            refine HCT.out.mono ?_
            rintro e w4 ⟨⟨v1, rfl, ho1⟩, hb4⟩
            obtain ⟨ao1, cap1, rfl⟩ := ho1.form
            have HO1 := Lib.hid ho1
            have HR4 := Lib.hid (HRA.out.below hb4)
            have HB4 := Lib.hid (HBA.out.trans (hb4.mono HBA.out.size))
            clear hb4 HRA HBA HCT ho1
            simp only [Option.getD_some, Option.isSome_some]
            go_wp2_with fail
            have c2 := rlist_any _ rest false _ HR4.out (fun h => by cases h) (by first | omega | simp)
            rw [HT.out] at c2
            refine c2.mono ?_
            rintro e w5 ⟨v2, rfl, ho2, hr2, hb2⟩
            obtain ⟨ao2, cap2, rfl⟩ := ho2.form
            have HR3 := Lib.hid hr2
            have HB3 := Lib.hid (hb2.toBelow HB4.out HS.out HB4.out.size)
            have HO2 := Lib.hid ho2
            have HS1 := Lib.hid (strsAt_own (HO1.out.but hb2 (by have := HR.out.lt; simp; omega)))
            clear c2 ho2 hr2 hb2 HR4 HB4
            go_wp2_with fail
            have c3 := same_any ao2 ao1 cap2 cap1 l l w5 (strsAt_own HO2.out) HS1.out (by omega)
            rw [decide_eq_true (rfl : (l : List (List UInt8)) = l)] at c3
            refine c3.mono ?_
            rintro e w6 ⟨rfl, hb6⟩
            have HR6 := Lib.hid (HR3.out.below hb6)
            have HB6 := Lib.hid (HB3.out.trans (hb6.mono HB3.out.size))
            clear c3 hb6 HR3 HB3 HO2 HS1
            go_wp2_with fail
            refine (rlist_nil _).mono ?_
            rintro e w7 ⟨rfl, rfl⟩
            by_cases hr : r = []
            · subst hr
              go_wp2_with fail
              refine (end_ok _ _ HR6.out).mono ?_
              rintro e w8 ⟨rfl, rfl⟩
              go_wp2_with fail
              exact ⟨⟨q + 1, [], true, by omega, by go_num, rfl, rfl, fun h => rfl, by simp, HR6.out, HB6.out⟩, by simp [intOf]; omega⟩
            · have HNE := Lib.hid hr
              have hem : r.isEmpty = false := by cases r <;> simp_all
              clear hr
              go_wp2_with fail
              refine (end_rest _ _ _ HR6.out HNE.out).mono ?_
              rintro e w8 ⟨rfl, rfl⟩
              go_wp2_with fail
              exact ⟨⟨q + 1, r, true, by omega, by go_num, rfl, rfl, (fun h => by cases h), by omega, HR6.out, HB6.out⟩, by simp [intOf]; omega⟩
        | false =>
          have hre := HOK.out rfl
          subst hre
          have HBA := Lib.hid (HB.out.alloc HB.out.size (.cells #[.int .i64 2] 34))
          have HRA := Lib.hid (HR.out.below ((Below.refl _ _).alloc (Nat.le_refl _) (.cells #[.int .i64 2] 34)))
          go_wp2_with fail
          have c2 := rlist_any _ [] true _ HRA.out (fun _ => rfl) (by first | omega | simp)
          rw [show rdList [] = ([], [], true) from rfl] at c2
          refine c2.mono ?_
          rintro e w5 ⟨v2, rfl, ho2, hr2, hb2⟩
          obtain ⟨ao2, cap2, rfl⟩ := ho2.form
          have HR3 := Lib.hid hr2
          have HB3 := Lib.hid (hb2.toBelow HBA.out HS.out HBA.out.size)
          have HO2 := Lib.hid ho2
          have HS1 := Lib.hid (show StrsAt none [] w5 from Or.inl rfl)
          clear c2 ho2 hr2 hb2 HRA HBA
          go_wp2_with fail
          have c3 := same_any ao2 none cap2 0 [] [] w5 (strsAt_own HO2.out) HS1.out (by simp)
          rw [decide_eq_true (rfl : ([] : List (List UInt8)) = [])] at c3
          refine c3.mono ?_
          rintro e w6 ⟨rfl, hb6⟩
          have HR6 := Lib.hid (HR3.out.below hb6)
          have HB6 := Lib.hid (HB3.out.trans (hb6.mono HB3.out.size))
          clear c3 hb6 HR3 HB3 HO2 HS1
          go_wp2_with fail
          refine (rlist_nil _).mono ?_
          rintro e w7 ⟨rfl, rfl⟩
          go_wp2_with fail
          refine (end_failed _ _ _ HR6.out).mono ?_
          rintro e w8 ⟨rfl, rfl⟩
          go_wp2_with fail
          exact ⟨⟨q + 1, [], false, by omega, by go_num, rfl, rfl, fun _ => rfl, by simp, HR6.out, HB6.out⟩, by simp [intOf]; omega⟩
      have e0 : (kind == 0) = false := by simpa using hk0
      have e1 : (kind == 1) = false := by simpa using hk1
      have e2 : (kind == 2) = false := by simpa using hk2
      clear hk0 hk1 hk2
      have HBA := Lib.hid (HB.out.alloc HB.out.size (.cells #[.int .i64 kind] 34))
      have HRA := Lib.hid (HR.out.below ((Below.refl _ _).alloc (Nat.le_refl _) (.cells #[.int .i64 kind] 34)))
      cases ok with
      | true =>
        by_cases hr : rest = []
        · subst hr
          go_wp2_with fail
          refine (end_ok _ _ HRA.out).mono ?_
          rintro e w7 ⟨rfl, rfl⟩
          go_wp2_with fail
          exact ⟨⟨q + 1, [], true, by omega, by go_num, rfl, rfl, fun h => rfl, by simp, HRA.out, HBA.out⟩, by simp [intOf]; omega⟩
        · have HNE := Lib.hid hr
          have hem : rest.isEmpty = false := by cases rest <;> simp_all
          clear hr
          go_wp2_with fail
          refine (end_rest _ _ _ HRA.out HNE.out).mono ?_
          rintro e w7 ⟨rfl, rfl⟩
          go_wp2_with fail
          exact ⟨⟨q + 1, rest, true, by omega, by go_num, rfl, rfl, (fun h => by cases h), hlen, HRA.out, HBA.out⟩, by simp [intOf]; omega⟩
      | false =>
        have hre := HOK.out rfl
        subst hre
        go_wp2_with fail
        refine (end_failed _ _ _ HRA.out).mono ?_
        rintro e w7 ⟨rfl, rfl⟩
        go_wp2_with fail
        exact ⟨⟨q + 1, [], false, by omega, by go_num, rfl, rfl, fun _ => rfl, by simp, HRA.out, HBA.out⟩, by simp [intOf]; omega⟩
-- ROUNDS END
    · obtain rfl : q = ks.length := by omega
      clear hrd hbel hok
      go_wp2_with fail
      refine (end_nil _).mono ?_
      rintro e w4 ⟨rfl, rfl⟩
      cases ok with
      | false =>
        go_wp2_with fail
        refine (end_failed _ _ _ HR.out).mono ?_
        rintro e w5 ⟨rfl, rfl⟩
        go_wp2_with fail
        refine (end_failed _ _ _ HR.out).mono ?_
        rintro e w6 ⟨rfl, rfl⟩
        go_wp2_with fail
        go_ret
        exact ⟨rfl, HB.out⟩
      | true =>
        by_cases hr : rest = []
        · subst hr
          go_wp2_with fail
          refine (end_ok _ _ HR.out).mono ?_
          rintro e w5 ⟨rfl, rfl⟩
          go_wp2_with fail
          go_ret
          exact ⟨rfl, HB.out⟩
        · have HNE := Lib.hid hr
          clear hr
          go_wp2_with fail
          refine (end_rest _ _ _ HR.out HNE.out).mono ?_
          rintro e w5 ⟨rfl, rfl⟩
          go_wp2_with fail
          refine (end_rest _ _ _ HR.out HNE.out).mono ?_
          rintro e w6 ⟨rfl, rfl⟩
          go_wp2_with fail
          go_ret
          exact ⟨rfl, HB.out⟩

theorem walk (w : World) (s : List UInt8) (hs : s.length ≤ 140737488351232) (ao : Option Addr) (ks : List Int) (c : Nat) (hk : StepsAt ao ks w) (hn : ks.length ≤ 140737488351232) :
    Calls Try.prog 4 #[.string ⟨s.toArray⟩, .slice ao ks.length c] w fun e w' => e = .returned (.bool true) ∧ Below w.heap.size w w' := by
  by_cases h : 4096 < s.length
  · exact big1 w s ao ks c hs h
  · by_cases h2 : 60 < ks.length
    · exact big2 w s ao ks c hn (by omega) h2
    · exact small w s ao ks c hk (by omega) (by omega)
end Go.Proofs.Ytkcmadehoafckaa.packReads
