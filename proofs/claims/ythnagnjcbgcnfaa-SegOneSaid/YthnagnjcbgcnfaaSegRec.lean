/-
  The developers' seg: the records that valid bytes are; Open.
-/
import Derived.Test.YthnagnjcbgcnfaaSegRd
import Derived.Test.YthnagnjcbgcnfaaRtext
import Derived.Test.YthnagnjcbgcnfaaText
namespace Go.Proofs.Ythnagnjcbgcnfaa
open Go.RowKit Go.BigFrame

theorem dev8_tooLong (t : List UInt8) (w : World) (b : Bool) (hb : decide (250000 < t.length) = b) (hl : t.length ≤ 3000000) :
    Calls Try.prog 22 #[.string ⟨t.toArray⟩] w fun e w' => e = .returned (.bool b) ∧ w' = w := by
  obtain ⟨n, hn⟩ : ∃ n, t.length = n := ⟨_, rfl⟩
  have hb2 : decide ((250000 : Int) < (n : Int)) = b := by rw [← hb, hn]; exact decide_eq_decide.2 (by omega)
  rw [hn] at hl
  clear hb
  go_enter Try.func22, Try.ntmps22
  go_wp2_with fail
  go_ret
  exact ⟨rfl, rfl⟩

theorem prefix_any (p r : List UInt8) (w : World) :
    Calls Try.prog 54 #[.string ⟨(p ++ r).toArray⟩, .string ⟨p.toArray⟩] w fun e w' => e = .returned (.bool true) ∧ w' = w := by
  have hx : (⟨(p ++ r).toArray⟩ : ByteArray).extract 0 p.length = ⟨p.toArray⟩ := by rw [extract_head, List.take_left]
  have hle : (p.length : Int) ≤ ((p ++ r).length : Int) := by rw [List.length_append]; omega
  obtain ⟨s, hs⟩ : ∃ s, p ++ r = s := ⟨_, rfl⟩
  rw [hs] at hx hle ⊢
  clear hs
  go_enter Try.func54, Try.ntmps54
  go_wp2_with fail
  go_ret
  exact ⟨rfl, rfl⟩
theorem cut_lite (p r : List UInt8) (w : World) :
    Calls Try.prog 47 #[.string ⟨(p ++ r).toArray⟩, .string ⟨p.toArray⟩] w fun e w' => e = .returned (.tuple #[.string ⟨r.toArray⟩, .bool true]) ∧ w' = w := by
  have HP := Lib.hid (prefix_any p r w)
  have hx : (⟨(p ++ r).toArray⟩ : ByteArray).extract p.length (p ++ r).length = ⟨r.toArray⟩ := by rw [extract_tail, List.drop_left]
  have hle : (p.length : Int) ≤ ((p ++ r).length : Int) := by rw [List.length_append]; omega
  obtain ⟨s, hs⟩ : ∃ s, p ++ r = s := ⟨_, rfl⟩
  rw [hs] at hx hle HP ⊢
  clear hs
  go_enter Try.func47, Try.ntmps47
  go_wp2_with fail
  refine HP.out.mono ?_
  rintro e w1 ⟨rfl, rfl⟩
  go_wp2_with fail
  go_ret2
  exact ⟨rfl, rfl⟩
theorem cut_any (p r : List UInt8) (w : World) :
    Calls Try.prog 33 #[.string ⟨(p ++ r).toArray⟩, .string ⟨p.toArray⟩] w fun e w' => e = .returned (.tuple #[.string ⟨r.toArray⟩, .bool true]) ∧ w' = w := by
  have HP := Lib.hid (cut_lite p r w)
  obtain ⟨s, hs⟩ : ∃ s, p ++ r = s := ⟨_, rfl⟩
  rw [hs] at HP ⊢
  clear hs
  go_enter Try.func33, Try.ntmps33
  go_wp2_with fail
  refine HP.out.mono ?_
  rintro e w1 ⟨rfl, rfl⟩
  go_wp2_with fail
  go_ret2
  exact ⟨rfl, rfl⟩

theorem textB_len (t : List UInt8) : 1 ≤ (textB t).length ∧ t.length ≤ (textB t).length := by
  have := numB_pos t.length
  rw [textB, List.length_append]
  omega
theorem textB_le {t : List UInt8} (h : t.length ≤ 250000) : (textB t).length ≤ 250009 := by
  have := numB_length_9 (n := t.length) (by omega)
  rw [textB, List.length_append]
  omega
theorem rdText_textB {t q : List UInt8} (h : t.length ≤ 250000) : (rdText (textB t ++ q)).1 = t := by rw [rdText, takeText_textB (by omega)]
theorem textsB_count : ∀ (l : List (List UInt8)), l.length ≤ (textsB l).length
  | [] => Nat.zero_le _
  | t :: l => by
    have := textsB_count l
    have := (textB_len t).1
    rw [textsB_cons, List.length_append, List.length_cons]
    omega

theorem OwnS.other {B b : Nat} {v : Value} {l : List (List UInt8)} {w w' : World} (h : OwnS B v l w) (k : But b w w') (hb : v.ownBlock ≠ some b) : OwnS B v l w' :=
  World.ownsRow.kept (row := some b) h ⟨k.os, k.tape, k.output, k.size, fun i hi hne => k.block i hi (fun e => hne (by rw [e]))⟩ (.inr hb)

set_option maxHeartbeats 1000000 in
set_option maxRecDepth 100000 in
theorem dev8_records (R : List (List UInt8)) (w : World) (hR : ∀ r ∈ R, r.length ≤ 250000) (hl : (textsB R).length ≤ 3000000) :
    Calls Try.prog 20 #[.string ⟨(textsB R).toArray⟩] w fun x w' => ∃ v, x = .returned (.tuple #[v, .int .i64 0]) ∧ OwnS w.heap.size v R w' ∧ Below w.heap.size w w' := by
  have HR := Lib.hid hR
  have hn := textsB_count R
  obtain ⟨i0, hi, hz0, hz1, hz2⟩ := info_parts Try.infoString
  have HL := Lib.hid hl
  have HN := Lib.hid hn
  have HS0 := Shut.mk (show textsB R = textsB (R.drop 0) by rw [List.drop_zero])
  clear hR hl hn
  go_enter Try.func20, Try.ntmps20
  go_wp2_with fail
  go_loopw [0, 4] (fun s v wq => ∃ k : Nat, k ≤ R.length ∧ s = .string ⟨(textsB (R.drop k)).toArray⟩ ∧ OwnS w.heap.size v (R.take k) wq ∧ Below w.heap.size w wq) (fun s _ _ => match s with | .string b => b.size | _ => 0)
  case atStart => exact ⟨0, Nat.zero_le _, by rw [HS0.out], OwnS.nil _ _, Below.refl _ _⟩
  case round =>
    obtain ⟨k, hk, rfl, hown, hb⟩ := hrel
    obtain ⟨ao, cap, rfl⟩ := hown.form
    have HO := Lib.hid hown
    have HB := Lib.hid hb
    have HLT := Shut.mk (show (R.take k).length = k by rw [List.length_take]; omega)
    rw [HLT.out]
    rw [HLT.out] at HO
    clear hown hb
    by_cases hlt : k < R.length
    · have hrl := HR.out _ (List.getElem_mem hlt)
      have hdr : R.drop k = R[k] :: R.drop (k + 1) := List.drop_eq_getElem_cons hlt
      have hS : textsB (R.drop k) = textB R[k] ++ textsB (R.drop (k + 1)) := by rw [hdr, textsB_cons]
      have htk : R.take (k + 1) = R.take k ++ [R[k]] := by rw [List.take_succ_eq_append_getElem hlt]
      have hSl : (textsB (R.drop k)).length ≤ 3000000 := by
        have h1 := HL.out
        have h2 := congrArg (fun l => (textsB l).length) (List.take_append_drop k R)
        simp only [textsB_append, List.length_append] at h2
        omega
      have HTK := Shut.mk htk
      obtain ⟨r, hr⟩ : ∃ r, R[k] = r := ⟨_, rfl⟩
      rw [hr] at hrl hS HTK
      obtain ⟨S1, hS1⟩ : ∃ S1, textsB (R.drop (k + 1)) = S1 := ⟨_, rfl⟩
      rw [hS1] at hS
      have HS1 := Shut.mk hS1
      obtain ⟨S0, hS0⟩ : ∃ S0, textsB (R.drop k) = S0 := ⟨_, rfl⟩
      rw [hS0] at hS hSl ⊢
      have hT := textB_len r
      have hT2 := textB_le hrl
      obtain ⟨m, hm⟩ : ∃ m, min S0.length 262144 = m := ⟨_, rfl⟩
      have hmi : min (S0.length : Int) 262144 = (m : Int) := by omega
      have hmle : (m : Int) ≤ (S0.length : Int) := by omega
      have hm2 : m ≤ 262144 := by omega
      have hS0l : S0.length = (textB r).length + S1.length := by rw [hS, List.length_append]
      have hex : (⟨S0.toArray⟩ : ByteArray).extract 0 m = ⟨(S0.take m).toArray⟩ := extract_head _ _
      have hrt : (rdText (S0.take m)).1 = r := by
        rw [hS, List.take_append, List.take_of_length_le (by omega)]
        exact rdText_textB hrl
      have htl : (S0.take m).length ≤ 262144 := by rw [List.length_take]; omega
      have hne : (S0 == []) = false := by
        cases S0 with
        | nil => simp only [List.length_nil] at hS0l; omega
        | cons _ _ => rfl
      have HRT := Shut.mk hrt
      have HTL := Lib.hid htl
      have HTB := Shut.mk hS
      have HRL := Lib.hid hrl
      have HCU := Lib.hid (fun w' => cut_any (textB r) S1 w')
      rw [← hS] at HCU
      have HTE := Lib.hid (fun w' => text_any r w' (by omega))
      have HLO := Lib.hid (fun w' => dev8_tooLong r w' false (decide_eq_false (by omega)) (by omega))
      have HSL := Shut.mk hS0l
      have HT1 := Lib.hid hT.1
      clear hr hS1 hS0 hS hdr htk hrl hT hT2 hm hrt htl hS0l
      go_wp2_with fail
      refine (open_ok (S0.take m) wr HTL.out).mono ?_
      rintro x w1 ⟨rfl, hrd, hb1⟩
      have HB1 := Lib.hid (HB.out.trans (hb1.mono HB.out.size))
      have HO1 := Lib.hid (HO.out.below hb1)
      have HRD := Lib.hid hrd
      have hgl : w.heap.size ≤ wr.heap.size := HB.out.size
      have HNO := Lib.hid (show (Value.slice ao k cap).ownBlock ≠ some wr.heap.size from fun e => by
        have := (World.ownsRow.lt HO.out _ e).2
        omega)
      obtain ⟨g, hg⟩ : ∃ g, wr.heap.size = g := ⟨_, rfl⟩
      rw [hg] at HRD hgl HNO ⊢
      clear hrd hb1 HB HO hg
      go_wp2_with fail
      refine (rtext_any g (S0.take m) false w1 HRD.out (fun h => by cases h) HTL.out).mono ?_
      rintro x w2 ⟨rfl, _, hb2⟩
      rw [HRT.out]
      have HB2 := Lib.hid (But.toBelow HB1.out hb2 hgl HB1.out.size)
      have HO2 := Lib.hid (HO1.out.other hb2 HNO.out)
      clear hb2 HB1 HO1 HRD HTL HRT
      go_wp2_with fail
      refine (HTE.out w2).mono ?_
      rintro x w3 ⟨rfl, hb3⟩
      have HB3 := Lib.hid (HB2.out.trans (hb3.mono HB2.out.size))
      have HO3 := Lib.hid (HO2.out.below hb3)
      clear hb3 HB2 HO2 HTE HNO
      go_wp2_with fail
      refine (HCU.out w3).mono ?_
      rintro x w4 ⟨rfl, rfl⟩
      clear HCU
      go_wp2_with fail
      refine (HLO.out w4).mono ?_
      rintro x w5 ⟨rfl, rfl⟩
      clear HLO
      have hk2 : k ≤ 3000000 := by have := HN.out; have := HL.out; omega
      have hw5 := HB3.out.size
      go_wp2_with (at_builtin; refine wpList_append_own _ rfl _ _ 29 rfl w.heap.size 9 i0 (.string ⟨#[]⟩) 1 16 Try.underlying29 hi hz0 hz1 hz2 rfl (by decide) _ _ _ rfl (World.ownsRow.alloc HO3.out _) ⟨w5.heap.size, 0, none⟩ 1 1 [.string ⟨r.toArray⟩] rfl rfl ?c1 ?c2 ?c3 ?c4 ?c5 ?_)
      case c1 =>
        intro j u hj
        match j, hj with
        | 0, hj => simp at hj; subst hj; simp [Addr.add]
      case c2 => intro u hu; simp at hu; subst hu; rfl
      case c3 => rw [HLT.out]; unfold maxLen; omega
      case c4 => rw [HLT.out]; omega
      case c5 => simp; omega
      intro v' w6 hown' hgrow _
      have hal : Below w.heap.size w (w5.alloc (.cells #[.string ⟨r.toArray⟩] 9)) := HB3.out.alloc HB3.out.size _
      have HB6 := Lib.hid (hal.grown hgrow hal.size (fun g hg => (World.ownsRow.lt HO3.out g hg).1))
      have HO6 := Lib.hid (show OwnS w.heap.size v' (R.take (k + 1)) w6 by
        unfold OwnS
        rw [HTK.out, strs_snoc, List.length_append, HLT.out]
        exact hown')
      clear hown' hgrow hal HB3 HO3
      go_wp2_with fail
      exact ⟨⟨k + 1, by omega, by rw [HS1.out], HO6.out, HB6.out⟩, by
        have := HSL.out
        have := HT1.out
        show S1.toArray.size < S0.toArray.size
        simp
        omega⟩
    · obtain rfl : k = R.length := by omega
      have hnil : textsB (R.drop R.length) = [] := by rw [List.drop_length]; rfl
      rw [hnil]
      rw [List.take_length] at HO
      go_wp2_with fail
      go_ret2
      exact ⟨_, rfl, HO.out, HB.out⟩
end Go.Proofs.Ythnagnjcbgcnfaa
