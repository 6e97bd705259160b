/-
  The walk of the law PackBack.
-/
import Derived.Test.YtkcmadehoafckaaLaws
namespace Go.Proofs.Ytkcmadehoafckaa.packBack
open Go.RowKit

theorem neg_yes (w : World) (n : Int) (x : Option Addr) (a : List (List UInt8)) (c : Nat) (s : List UInt8) (hn : n < 0) :
    Calls Try.prog 6 #[.int .i64 n, .string ⟨s.toArray⟩, .slice x a.length c] w fun e w' => e = .returned (.bool true) ∧ Below w.heap.size w w' := by
  go_enter Try.func6, Try.ntmps6
  go_wp2_with fail
  refine (alive_any _).mono ?_
  rintro e w1 ⟨rfl, hb1⟩
  have HB1 := Lib.hid hb1
  clear hb1
  go_wp2_with fail
  go_ret
  exact ⟨rfl, HB1.out⟩

theorem great_yes (w : World) (n : Nat) (x : Option Addr) (a : List (List UInt8)) (c : Nat) (hx : StrsAt x a w) (na : a.length ≤ 140737488351232) (ta : ∀ t ∈ a, t.length ≤ 140737488351232) (s : List UInt8) (ha : greatB a = true) :
    Calls Try.prog 6 #[.int .i64 n, .string ⟨s.toArray⟩, .slice x a.length c] w fun e w' => e = .returned (.bool true) ∧ Below w.heap.size w w' := by
  have HX := Lib.hid hx
  have HA := Lib.hid ha
  have HTA := Lib.hid ta
  clear hx ha ta
  go_enter Try.func6, Try.ntmps6
  go_wp2_with fail
  refine (alive_any _).mono ?_
  rintro e w1 ⟨rfl, hb1⟩
  have HB1 := Lib.hid hb1
  have HX1 := Lib.hid (HX.out.below hb1)
  clear hb1 HX
  go_wp2_with fail
  have c1 := great_any x c a w1 HX1.out (by omega) (fun t ht => by have := HTA.out t ht; omega)
  rw [HA.out] at c1
  refine c1.mono ?_
  rintro e w2 ⟨rfl, rfl⟩
  clear c1
  go_wp2_with fail
  go_ret
  exact ⟨rfl, HB1.out⟩

theorem long_yes (w : World) (n : Nat) (x : Option Addr) (a : List (List UInt8)) (c : Nat) (hx : StrsAt x a w) (na : a.length ≤ 140737488351232) (ta : ∀ t ∈ a, t.length ≤ 140737488351232) (s : List UInt8) (hs : s.length ≤ 140737488351232) (ha : greatB a = false) (hl : 4096 < s.length) :
    Calls Try.prog 6 #[.int .i64 n, .string ⟨s.toArray⟩, .slice x a.length c] w fun e w' => e = .returned (.bool true) ∧ Below w.heap.size w w' := by
  have HX := Lib.hid hx
  have HA := Lib.hid ha
  have HTA := Lib.hid ta
  have hd : decide ((4096 : Int) < (s.length : Int)) = true := by simp; omega
  clear hx ha ta
  go_enter Try.func6, Try.ntmps6
  go_wp2_with fail
  refine (alive_any _).mono ?_
  rintro e w1 ⟨rfl, hb1⟩
  have HB1 := Lib.hid hb1
  have HX1 := Lib.hid (HX.out.below hb1)
  clear hb1 HX
  go_wp2_with fail
  have c1 := great_any x c a w1 HX1.out (by omega) (fun t ht => by have := HTA.out t ht; omega)
  rw [HA.out] at c1
  refine c1.mono ?_
  rintro e w2 ⟨rfl, rfl⟩
  clear c1
  go_wp2_with fail
  go_ret
  exact ⟨rfl, HB1.out⟩

theorem cat3 (l s : List UInt8) : (({ data := l.toArray } : ByteArray) ++ { data := s.toArray }) = { data := (l ++ s).toArray } := by
  apply ByteArray.ext; rw [ByteArray.data_append]; simp

theorem listB_nil : listB [] = [0] := by simp [listB, textsB, numB, dig_zero]

theorem list_nil (w : World) : Calls Try.prog 17 #[.slice none 0 0] w fun e w' => e = .returned (.string ⟨#[0]⟩) ∧ Below w.heap.size w w' := by
  have h := list_any none 0 [] w (Or.inl rfl) (by simp) (by rw [listB_nil]; simp)
  rw [listB_nil] at h
  exact h

theorem rd1 {n : Nat} (hn : n < 9223372036854775808) (r : List UInt8) : rdNum (numB n ++ r) = (n, r, false) := by
  unfold rdNum; rw [takeNum_numB hn]
theorem rd2 {a : List (List UInt8)} (ha : greatB a = false) (r : List UInt8) : rdList (listB a ++ r) = (a, r, false) := by
  obtain ⟨a1, _, a3, _⟩ := greatB_false ha
  unfold rdList
  rw [takeList_listB (by omega) (fun t ht => by have := a3 t ht; omega)]
theorem rd3 {s : List UInt8} (hs : s.length ≤ 4096) (r : List UInt8) : rdText (textB s ++ r) = (s, r, false) := by
  unfold rdText
  rw [takeText_textB (by omega)]
theorem rd4 : rdList [0] = ([], [], false) := by
  have := takeList_listB (l := []) (by simp) (by simp) []
  rw [listB_nil] at this
  unfold rdList
  rw [show ([0] : List UInt8) = [0] ++ [] from rfl, this]

theorem total_length (n : Nat) (hn : n < 9223372036854775808) (a : List (List UInt8)) (ha : greatB a = false) (s : List UInt8) (hs : s.length ≤ 4096) :
    (numB n).length + (listB a).length + (textB s).length + 1 ≤ 20000 := by
  have h1 := numB_length_9 hn
  have h2 := (greatB_false ha).2.2.2
  have h3 := numB_length_9 (n := s.length) (by omega)
  rw [textB_length]
  omega

set_option maxHeartbeats 1000000 in
theorem small (w : World) (n : Nat) (hn : n < 9223372036854775808) (x : Option Addr) (a : List (List UInt8)) (c : Nat) (hx : StrsAt x a w) (na : a.length ≤ 140737488351232) (ta : ∀ t ∈ a, t.length ≤ 140737488351232) (s : List UInt8) (ha : greatB a = false) (hl : s.length ≤ 4096) :
    Calls Try.prog 6 #[.int .i64 n, .string ⟨s.toArray⟩, .slice x a.length c] w fun e w' => e = .returned (.bool true) ∧ Below w.heap.size w w' := by
  have HX := Lib.hid hx
  have HA := Lib.hid ha
  have HTA := Lib.hid ta
  have la := (greatB_false ha).2.2.2
  have lt := total_length n hn a ha s hl
  have hd : decide ((4096 : Int) < (s.length : Int)) = false := by simp; omega
  have h2 := cat3 (numB n) (listB a)
  have h3 := cat3 (numB n ++ listB a) (textB s)
  have h4 := cat3 (numB n ++ (listB a ++ textB s)) [0]
  clear hx ha ta
  go_enter Try.func6, Try.ntmps6
  go_wp2_with fail
  refine (alive_any _).mono ?_
  rintro e w1 ⟨rfl, hb1⟩
  have HB1 := Lib.hid hb1
  have HX1 := Lib.hid (HX.out.below hb1)
  clear hb1
  go_wp2_with fail
  have c1 := great_any x c a w1 HX1.out (by omega) (fun t ht => by have := HTA.out t ht; omega)
  rw [HA.out] at c1
  refine c1.mono ?_
  rintro e w2 ⟨rfl, rfl⟩
  clear c1
  go_wp2_with fail
  refine (num_any n _ hn).mono ?_
  rintro e w2 ⟨rfl, hb2⟩
  have HB2 := Lib.hid (HB1.out.trans (hb2.mono HB1.out.size))
  have HX2 := Lib.hid (HX1.out.below hb2)
  clear hb2 HB1 HX1
  go_wp2_with fail
  refine (list_any x c a _ HX2.out (by omega) (by omega)).mono ?_
  rintro e w3 ⟨rfl, hb3⟩
  have HB3 := Lib.hid (HB2.out.trans (hb3.mono HB2.out.size))
  clear hb3 HB2 HX2
  go_wp2_with fail
  refine (text_any s _ (by omega)).mono ?_
  rintro e w4 ⟨rfl, hb4⟩
  have HB4 := Lib.hid (HB3.out.trans (hb4.mono HB3.out.size))
  clear hb4 HB3
  go_wp2_with fail
  refine (list_nil _).mono ?_
  rintro e w5 ⟨rfl, hb5⟩
  have HB5 := Lib.hid (HB4.out.trans (hb5.mono HB4.out.size))
  clear hb5 HB4
  go_wp2_with fail
  refine (open_ok (numB n ++ (listB a ++ (textB s ++ [0]))) _ (by simp; omega)).mono ?_
  rintro e w6 ⟨rfl, hr6, hb6⟩
  have HR6 := Lib.hid hr6
  have HS := Lib.hid HB5.out.size
  have HB6 := Lib.hid (HB5.out.trans (hb6.mono HB5.out.size))
  have hlt := hr6.lt
  have hlen6 : (numB n ++ (listB a ++ (textB s ++ [0]))).length ≤ 20000 := by simp; omega
  clear hr6 hb6 HB5 h2 h3 h4
  go_wp2_with fail
  have c2 := rnum_any _ _ false _ HR6.out (fun h => by cases h)
  rw [rd1 hn] at c2
  refine c2.mono ?_
  rintro e w7 ⟨rfl, hr7, hb7⟩
  have HR7 := Lib.hid hr7
  have HB7 := Lib.hid (hb7.toBelow HB6.out HS.out HB6.out.size)
  have hlt7 := hr7.lt
  clear c2 hr7 hb7 HR6 HB6
  go_wp2_with fail
  have c3 := rlist_any _ _ false _ HR7.out (fun h => by cases h) (by simp; omega)
  rw [rd2 HA.out] at c3
  refine c3.mono ?_
  rintro e w8 ⟨v, rfl, ho, hr8, hb8⟩
  obtain ⟨ao, cap, rfl⟩ := ho.form
  have HO8 := Lib.hid ho
  have HR8 := Lib.hid hr8
  have HB8 := Lib.hid (hb8.toBelow HB7.out HS.out HB7.out.size)
  clear c3 ho hr8 hb8 HR7 HB7
  go_wp2_with fail
  have c4 := rtext_any _ _ false _ HR8.out (fun h => by cases h) (by simp; omega)
  rw [rd3 hl] at c4
  refine c4.mono ?_
  rintro e w9 ⟨rfl, hr9, hb9⟩
  have HR9 := Lib.hid hr9
  have HB9 := Lib.hid (hb9.toBelow HB8.out HS.out HB8.out.size)
  have HO9 := Lib.hid (HO8.out.but hb9 hlt7)
  clear c4 hr9 hb9 HR8 HB8 HO8
  go_wp2_with fail
  have c5 := rlist_any _ _ false _ HR9.out (fun h => by cases h) (by simp)
  rw [rd4] at c5
  refine c5.mono ?_
  rintro e w10 ⟨v, rfl, ho, hr10, hb10⟩
  obtain ⟨ao2, cap2, rfl⟩ := ho.form
  have HR10 := Lib.hid hr10
  have HB10 := Lib.hid (hb10.toBelow HB9.out HS.out HB9.out.size)
  have HO10 := Lib.hid (HO9.out.but hb10 hlt7)
  clear c5 ho hr10 hb10 HR9 HB9 HO9
  go_wp2_with fail
  have c6 := same_any ao x cap c a a w10 (strsAt_own HO10.out) (HX.out.below HB10.out) (by omega)
  rw [decide_eq_true (rfl : a = a)] at c6
  refine c6.mono ?_
  rintro e w11 ⟨rfl, hb11⟩
  have HR11 := Lib.hid (HR10.out.below hb11)
  have HB11 := Lib.hid (HB10.out.trans (hb11.mono HB10.out.size))
  clear c6 hb11 HR10 HB10 HO10
  go_wp2_with fail
  refine (end_ok _ _ HR11.out).mono ?_
  rintro e w12 ⟨rfl, rfl⟩
  go_wp2_with fail
  go_ret
  exact ⟨rfl, HB11.out⟩

theorem walk (w : World) (n : Int) (hn : (Lit.int .i64 n).wf = true) (s : List UInt8) (hs : s.length ≤ 140737488351232) (x : Option Addr) (a : List (List UInt8)) (c : Nat) (hx : StrsAt x a w) (na : a.length ≤ 140737488351232) (ta : ∀ t ∈ a, t.length ≤ 140737488351232) :
    Calls Try.prog 6 #[.int .i64 n, .string ⟨s.toArray⟩, .slice x a.length c] w fun e w' => e = .returned (.bool true) ∧ Below w.heap.size w w' := by
  have bn := bounds_i64 hn
  by_cases h0 : n < 0
  · exact neg_yes w n x a c s h0
  · obtain ⟨m, rfl⟩ : ∃ m : Nat, n = m := ⟨n.toNat, by omega⟩
    cases ha : greatB a with
    | true => exact great_yes w m x a c hx na ta s ha
    | false =>
      by_cases hl : 4096 < s.length
      · exact long_yes w m x a c hx na ta s hs ha hl
      · exact small w m (by omega) x a c hx na ta s ha (by omega)
end Go.Proofs.Ytkcmadehoafckaa.packBack
