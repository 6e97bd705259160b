/-
  A reader's List.
-/
import Derived.Test.YthgfpojfnhkckaaRtext
namespace Go.Proofs.Ythgfpojfnhkckaa
open Go.RowKit

/-- What a reader's List answers, and what it leaves. -/
def rdList (s : List UInt8) : List (List UInt8) × List UInt8 × Bool := match takeList s with | some (l, r) => (l, r, false) | none => ([], [], true)

theorem rlist_nil (w : World) :
    Calls Try.prog 41 #[.pointer none] w fun e w' => e = .returned (.slice none 0 0) ∧ w = w' := by
  go_enter Try.func41, Try.ntmps41
  go_wp2_with fail
  go_ret
  exact ⟨rfl, rfl⟩

/-- Too many are announced. -/
theorem rlist_many (b : Nat) (s : List UInt8) (f : Bool) (w : World) (h : Rd b s f w) (hf : f = true → s = []) (hn : 4096 < (rdNum s).1) (hlt : (rdNum s).1 < 9223372036854775808) :
    Calls Try.prog 41 #[.pointer (some ⟨b, 0, none⟩)] w fun e w' => e = .returned (.slice none 0 0) ∧ Rd b [] true w' ∧ But b w w' := by
  have H := Lib.hid h
  have HF := Lib.hid hf
  clear h hf
  go_enter Try.func41, Try.ntmps41
  go_wp2_with fail
  refine (rnum_any b s f _ H.out HF.out).mono ?_
  rintro e w1 ⟨rfl, h1, hb1⟩
  have H1 := Lib.hid h1
  have HB1 := Lib.hid hb1
  clear h1 hb1 H
  go_wp2_with fail
  refine (fail_any b _ _ _ H1.out).mono ?_
  rintro e w2 ⟨rfl, h2, hb2⟩
  have H2 := Lib.hid h2
  have HB2 := Lib.hid (HB1.out.trans hb2)
  clear h2 hb2 HB1 H1
  go_wp2_with fail
  go_ret
  exact ⟨rfl, H2.out, HB2.out⟩

/-- What the loop over the texts comes to. -/
def TextsPost (B b : Nat) (f1 : Bool) (o : Option (List (List UInt8) × List UInt8)) (v : Value) (w' : World) : Prop :=
  match o with
  | some (l, q) => OwnS B v l w' ∧ Rd b q f1 w'
  | none => v = .slice none 0 0 ∧ Rd b [] true w'

set_option maxHeartbeats 1000000 in
/-- So many texts: all of them, or a fault. -/
theorem rlist_texts (b : Nat) (s r : List UInt8) (f f1 : Bool) (n : Nat) (w : World) (h : Rd b s f w) (hf : f = true → s = []) (hs : s.length ≤ 262144) (hn : rdNum s = (n, r, f1)) (h4 : n ≤ 4096) (hf1 : f1 = true → n = 0 ∧ r = []) :
    Calls Try.prog 41 #[.pointer (some ⟨b, 0, none⟩)] w fun e w' => ∃ v, e = .returned v ∧ But b w w' ∧ TextsPost w.heap.size b f1 (takeTexts n r) v w' := by
  have hr : r.length ≤ 262144 := by have := rdNum_length s; rw [hn] at this; simp only at this; omega
  have hblt := h.lt
  have hcall := rnum_any b s f w h hf
  rw [hn] at hcall
  have HC := Lib.hid hcall
  have HF := Lib.hid hf1
  clear hcall hf hn hs h hf1
  obtain ⟨i0, hi, hz0, hz1, hz2⟩ := info_parts Try.infoString
  go_enter Try.func41, Try.ntmps41
  go_wp2_with fail
  refine HC.out.mono ?_
  rintro e w1 ⟨rfl, h1, hb1⟩
  have H1 := Lib.hid h1
  have HB1 := Lib.hid hb1
  clear h1 hb1 HC
  go_wp2_with fail
  go_loopw [4, 14] (fun v i wr => ∃ (q : Nat) (l : List (List UInt8)) (rest : List UInt8), q ≤ n ∧ i = .int .i64 q ∧ takeTexts q r = some (l, rest) ∧ OwnS w.heap.size v l wr ∧ Rd b rest f1 wr ∧ But b w wr) (fun _ i _ => n - (intOf i).toNat)
  case atStart => exact ⟨0, [], r, Nat.zero_le _, rfl, rfl, OwnS.nil _ _, H1.out, HB1.out⟩
  case round =>
    obtain ⟨q, l, rest, hq, rfl, htk, hown, hrd, hbut⟩ := hrel
    have hll : l.length = q := (takeTexts_some _ _ _ _ htk).2
    have hrest := takeTexts_len htk
    by_cases hlt : q < n
    · have f10 : f1 = false := by cases f1 with | false => rfl | true => have := (HF.out rfl).1; omega
      subst f10
      have HT := Lib.hid htk
      have HL := Lib.hid hll
      have HO := Lib.hid hown
      have HR := Lib.hid hrd
      have HB := Lib.hid hbut
      obtain ⟨ao, cap, hv⟩ := hown.form
      subst hv
      clear htk hll hown hrd hbut
      go_wp2_with fail
      refine (rtext_any b rest false _ HR.out (fun h => by cases h) (by omega)).mono ?_
      rintro e w2 ⟨rfl, h2, hb2⟩
      have H2 := Lib.hid h2
      have HB2 := Lib.hid (HB.out.trans hb2)
      have HO2 := Lib.hid (HO.out.but hb2 hblt)
      have hsz := hb2.size
      have hszw := HB.out.size
      have hll2 : l.length ≤ 4096 := by have := HL.out; omega
      clear h2 hb2 HB HO HR
      go_wp2_with (at_builtin; refine wpList_append_own _ rfl _ _ 59 rfl w.heap.size 9 i0 (.string ⟨#[]⟩) 1 16 Try.underlying59 hi hz0 hz1 hz2 rfl (by decide) _ _ _ rfl (World.ownsRow.alloc HO2.out _) ⟨w2.heap.size, 0, none⟩ 1 1 [.string ⟨(rdText rest).1.toArray⟩] rfl rfl ?c1 ?c2 ?c3 ?c4 ?c5 ?_)
      case c1 =>
        intro j u hj
        match j, hj with
        | 0, hj => simp at hj; subst hj; simp [Addr.add]
      case c2 => intro u hu; simp at hu; subst hu; rfl
      case c3 => unfold maxLen; omega
      case c4 => omega
      case c5 => simp; omega
      intro v' w3 hown' hgrow _
      have hrow : ∀ g, (Value.slice ao l.length cap).ownBlock = some g → w.heap.size ≤ g := fun g hg => (HO2.out.lt g hg).1
      have H3 := Lib.hid (show Rd b (rdText rest).2.1 (rdText rest).2.2 w3 from (hgrow.block b (by simp; omega) (fun e => by have := hrow b e.symm; omega)).trans ((Lib.alloc_old w2 _ b (by omega)).trans H2.out))
      have HB3 := Lib.hid (show But b w w3 from ⟨hgrow.os.trans HB2.out.os, hgrow.tape.trans HB2.out.tape, hgrow.output.trans HB2.out.output, by have := hgrow.size; simp at this; omega, fun k hk hkb => by
        rw [hgrow.block k (by simp; omega) (fun e => by have := hrow k e.symm; omega), Lib.alloc_old w2 _ k (by omega)]
        exact HB2.out.block k hk hkb⟩)
      have HO3 := Lib.hid (show OwnS w.heap.size v' (l ++ [(rdText rest).1]) w3 by
        unfold OwnS
        rw [strs_snoc, List.length_append]
        exact hown')
      have HTs := Lib.hid (takeTexts_succ q r)
      have g1 := H3.out.cell1
      clear hown' hgrow hrow H2 HB2 HO2 hsz hszw
      cases htt : takeText rest with
      | none =>
        have e3 : rdText rest = ([], [], true) := by simp only [rdText, htt]
        rw [e3] at H3 HO3 g1 ⊢
        have HN := Lib.hid (show takeTexts n r = none from takeTexts_none_mono (k := q + 1) (by rw [HTs.out, HT.out]; simp only [htt]) n (by omega))
        clear htt e3
        go_wp2_with fail
        go_ret
        refine ⟨_, rfl, HB3.out, ?_⟩
        rw [HN.out]
        exact ⟨rfl, H3.out⟩
      | some p =>
        obtain ⟨t, r2⟩ := p
        have e3 : rdText rest = (t, r2, false) := by simp only [rdText, htt]
        rw [e3] at H3 HO3 g1 ⊢
        have HN := Lib.hid (show takeTexts (q + 1) r = some (l ++ [t], r2) by rw [HTs.out, HT.out]; simp only [htt])
        clear htt e3
        go_wp2_with fail
        refine ⟨⟨q + 1, l ++ [t], r2, by omega, by go_num, HN.out, HO3.out, H3.out, HB3.out⟩, by simp [intOf]; omega⟩
    · obtain rfl : q = n := by omega
      have HT := Lib.hid htk
      have HO := Lib.hid hown
      have HR := Lib.hid hrd
      have HB := Lib.hid hbut
      clear htk hll hown hrd hbut
      go_wp2_with fail
      go_ret
      refine ⟨_, rfl, HB.out, ?_⟩
      rw [HT.out]
      exact ⟨HO.out, HR.out⟩

/-- A reader's List: texts in memory of the call's own. -/
theorem rlist_any (b : Nat) (s : List UInt8) (f : Bool) (w : World) (h : Rd b s f w) (hf : f = true → s = []) (hs : s.length ≤ 262144) :
    Calls Try.prog 41 #[.pointer (some ⟨b, 0, none⟩)] w fun e w' => ∃ v, e = .returned v ∧ OwnS w.heap.size v (rdList s).1 w' ∧ Rd b (rdList s).2.1 (rdList s).2.2 w' ∧ But b w w' := by
  cases hn : takeNum s with
  | none =>
    have e1 : rdNum s = (0, [], true) := by simp only [rdNum, hn]
    have e2 : rdList s = ([], [], true) := by simp only [rdList, takeList, hn]
    rw [e2]
    refine (rlist_texts b s [] f true 0 w h hf hs e1 (by omega) (fun _ => ⟨rfl, rfl⟩)).mono ?_
    rintro e w' ⟨v, rfl, hb, ho, hr⟩
    exact ⟨v, rfl, ho, hr, hb⟩
  | some p =>
    obtain ⟨n, r⟩ := p
    have e1 : rdNum s = (n, r, false) := by simp only [rdNum, hn]
    by_cases h4 : n ≤ 4096
    · refine (rlist_texts b s r f false n w h hf hs e1 h4 (fun h => by cases h)).mono ?_
      rintro e w' ⟨v, rfl, hb, hm⟩
      have e2 : rdList s = (match takeTexts n r with | some (l, q) => (l, q, false) | none => ([], [], true)) := by
        simp only [rdList, takeList, hn, h4, if_true]
      rw [e2]
      cases ht : takeTexts n r with
      | none =>
        rw [ht] at hm
        obtain ⟨rfl, hr⟩ := hm
        exact ⟨_, rfl, OwnS.nil _ _, hr, hb⟩
      | some p =>
        obtain ⟨l, q⟩ := p
        rw [ht] at hm
        exact ⟨v, rfl, hm.1, hm.2, hb⟩
    · have e2 : rdList s = ([], [], true) := by simp only [rdList, takeList, hn, h4, if_false]
      rw [e2]
      refine (rlist_many b s f w h hf (by rw [e1]; simp only; omega) (by rw [e1]; exact takeNum_lt hn)).mono ?_
      rintro e w' ⟨rfl, hr, hb⟩
      exact ⟨_, rfl, OwnS.nil _ _, hr, hb⟩

theorem rdList_failed (s : List UInt8) : (rdList s).2.2 = true → (rdList s).2.1 = [] := by
  unfold rdList
  split <;> simp
end Go.Proofs.Ythgfpojfnhkckaa
