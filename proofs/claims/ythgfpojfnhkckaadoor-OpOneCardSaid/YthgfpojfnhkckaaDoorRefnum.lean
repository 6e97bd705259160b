/-
  The document's own Num, Text and List, walked.
-/
import Derived.Test.YthgfpojfnhkckaaDoorNum
import Derived.Test.YthgfpojfnhkckaaDoorBase
namespace Go.Proofs.YthgfpojfnhkckaaDoor
open Go.RowKit

theorem conv1 (w : World) (d : UInt8) : (convert 41 9 (.slice (some ⟨w.heap.size, 0, none⟩) 1 1)).run Tryd.prog (w.alloc (.cells #[.int .u8 (d.toNat : Int)] 5)) = .ok (.string ⟨#[d]⟩) (w.alloc (.cells #[.int .u8 (d.toNat : Int)] 5)) := by
  refine run_convert_bytes_back _ _ _ 5 ⟨w.heap.size, 0, none⟩ _ [d] Tryd.underlying41 Tryd.underlying5 Tryd.underlying9 ?_
  intro j hj
  have : j = 0 := by simpa using hj
  subst this
  simp [Addr.add]

theorem cat_cons (d : UInt8) (r : List UInt8) : (({ data := #[d] } : ByteArray) ++ { data := r.toArray }) = { data := (d :: r).toArray } := by
  apply ByteArray.ext; rw [ByteArray.data_append]; simp

theorem ofNat_mod_int (m : Nat) : ((UInt8.ofNat (m % 256)).toNat : Int) = (m : Int) % 256 := by
  rw [toNat_ofNat_mod]; omega

set_option maxHeartbeats 1000000 in
theorem rnumref_any (n : Nat) (w : World) (hn : n < 9223372036854775808) :
    Calls Tryd.prog 30 #[.int .i64 n] w fun e w' => e = .returned (.string ⟨(numB n).toArray⟩) ∧ Below w.heap.size w w' := by
  have h8 := dig_length_8 hn
  go_enter Tryd.func30, Tryd.ntmps30
  go_wp2_with fail
  go_loopw [0, 3, 4] (fun a s k wr => ∃ (m : Nat) (r : List UInt8), m < 9223372036854775808 ∧ dig m ++ r = dig n ∧ a = .int .i64 m ∧ s = .string ⟨r.toArray⟩ ∧ k = .int .i64 r.length ∧ Below w.heap.size w wr) (fun a _ _ _ => (intOf a).toNat)
  case atStart => exact ⟨n, [], hn, by simp, rfl, rfl, rfl, Below.refl _ _⟩
  case round =>
    obtain ⟨m, r, hm, hd, rfl, rfl, rfl, hbel⟩ := hrel
    have hr : r.length ≤ 8 := by have := congrArg List.length hd; simp at this; omega
    have HD := Lib.hid hd
    have HB := Lib.hid hbel
    clear hd hbel
    by_cases h0 : 0 < m
    · have hconv := conv1 wr (UInt8.ofNat (m % 256))
      rw [ofNat_mod_int] at hconv
      have hcat := cat_cons (UInt8.ofNat (m % 256)) r
      go_wp2_with fail
      refine ⟨⟨m / 256, UInt8.ofNat (m % 256) :: r, by omega, ?_, by go_num, rfl, by go_num, HB.out.alloc HB.out.size _⟩, by simp [intOf]; omega⟩
      rw [← HD.out, dig_pos (n := m) (by omega), List.append_assoc]; rfl
    · have e0 : m = 0 := by omega
      subst e0
      have hconv := conv1 wr (UInt8.ofNat r.length)
      rw [show ((UInt8.ofNat r.length).toNat : Int) = (r.length : Int) by simp; omega] at hconv
      have hcat := cat_cons (UInt8.ofNat r.length) r
      go_wp2_with fail
      go_ret
      refine ⟨?_, HB.out.alloc HB.out.size _⟩
      have e : r = dig n := by have := HD.out; rwa [dig_zero, List.nil_append] at this
      rw [numB, ← e]; rfl

theorem rtextref_any (s : List UInt8) (w : World) (hs : s.length ≤ 9223372036854775000) :
    Calls Tryd.prog 31 #[.string ⟨s.toArray⟩] w fun e w' => e = .returned (.string ⟨(textB s).toArray⟩) ∧ Below w.heap.size w w' := by
  have hcat : (({ data := (numB s.length).toArray } : ByteArray) ++ { data := s.toArray }) = { data := (textB s).toArray } := by
    apply ByteArray.ext; rw [ByteArray.data_append]; simp [textB]
  go_enter Tryd.func31, Tryd.ntmps31
  go_wp2_with fail
  refine (rnumref_any s.length _ (by omega)).mono ?_
  rintro e w1 ⟨rfl, hb⟩
  have HB := Lib.hid hb
  have hn := numB_length_9 (n := s.length) (by omega)
  clear hb
  go_wp2_with fail
  go_ret
  exact ⟨rfl, HB.out⟩

set_option maxHeartbeats 1000000 in
theorem rlistref_any (ao : Option Addr) (cap : Nat) (l : List (List UInt8)) (w : World) (h : StrsAt ao l w) (hl : l.length ≤ 9223372036854775807) (hlen : (listB l).length ≤ 9223372036854775000) :
    Calls Tryd.prog 19 #[.slice ao l.length cap] w fun e w' => e = .returned (.string ⟨(listB l).toArray⟩) ∧ Below w.heap.size w w' := by
  have HS := Lib.hid h
  have hlb := listB_length l
  have HL := Lib.hid hlb
  clear h hlb
  go_enter Tryd.func19, Tryd.ntmps19
  go_wp2_with fail
  refine (rnumref_any l.length _ (by omega)).mono ?_
  rintro e w1 ⟨rfl, hb1⟩
  have HB1 := Lib.hid hb1
  clear hb1
  go_wp2_with fail
  go_loopw [3, 11] (fun s i wr => ∃ q : Nat, q ≤ l.length ∧ i = .int .i64 q ∧ s = .string ⟨(numB l.length ++ textsB (l.take q)).toArray⟩ ∧ Below w.heap.size w wr) (fun _ i _ => l.length - (intOf i).toNat)
  case atStart => exact ⟨0, Nat.zero_le _, rfl, by simp [textsB], HB1.out⟩
  case round =>
    obtain ⟨q, hq, rfl, rfl, hbel⟩ := hrel
    by_cases hlt : q < l.length
    · have hparts := textsB_parts l q hlt
      have hlist := HL.out
      have hcell : ∃ b o, ao = some ⟨b, o, none⟩ ∧ wr.cell? ⟨b, o + q, none⟩ = some (.string ⟨l[q].toArray⟩) := by
        rcases HS.out.below hbel with h | ⟨b, o, ha, hb, hc⟩
        · subst h; simp at hlt
        · exact ⟨b, o, ha, hc q hlt⟩
      obtain ⟨cb, co, hao, hc⟩ := hcell
      have htl := textB_length l[q]
      have hlq : l[q].length ≤ 9223372036854775000 := by omega
      have hsum : (numB l.length).length + (textsB (l.take q)).length + (textB l[q]).length ≤ 9223372036854775000 := by omega
      have hcat : (({ data := (numB l.length ++ textsB (l.take q)).toArray } : ByteArray) ++ { data := (textB l[q]).toArray }) = { data := (numB l.length ++ textsB (l.take (q + 1))).toArray } := by
        apply ByteArray.ext; rw [ByteArray.data_append, textsB_take_succ l q hlt]; simp [textB, List.append_assoc]
      have HB := Lib.hid hbel
      subst hao
      clear hbel hparts htl hlist
      go_wp2_with fail
      refine (rtextref_any l[q] _ hlq).mono ?_
      rintro e w3 ⟨rfl, hb3⟩
      have HB3 := Lib.hid (HB.out.trans (hb3.mono HB.out.size))
      clear hb3 HB hc
      go_wp2_with fail
      exact ⟨⟨q + 1, by omega, by go_num, rfl, HB3.out⟩, by simp [intOf]; omega⟩
    · obtain rfl : q = l.length := by omega
      have HB := Lib.hid hbel
      clear hbel
      go_wp2_with fail
      go_ret
      exact ⟨by rw [List.take_length]; rfl, HB.out⟩
end Go.Proofs.YthgfpojfnhkckaaDoor
