/-
  The walk of the law PackStops.
-/
import Derived.Test.YtkcmadehoafckaaLaws
namespace Go.Proofs.Ytkcmadehoafckaa.packStops
open Go.RowKit

theorem great_yes (w : World) (x : Option Addr) (a : List (List UInt8)) (c : Nat) (hx : StrsAt x a w) (na : a.length ≤ 140737488351232) (ta : ∀ t ∈ a, t.length ≤ 140737488351232) (s : List UInt8) (ha : greatB a = true) :
    Calls Try.prog 9 #[.slice x a.length c, .string ⟨s.toArray⟩] w fun e w' => e = .returned (.bool true) ∧ Below w.heap.size w w' := by
  have HX := Lib.hid hx
  have HA := Lib.hid ha
  have HTA := Lib.hid ta
  clear hx ha ta
  go_enter Try.func9, Try.ntmps9
  go_wp2_with fail
  refine (alive_any _).mono ?_
  rintro e w1 ⟨rfl, hb1⟩
  have HB1 := Lib.hid hb1
  have HX1 := Lib.hid (HX.out.below hb1)
  clear hb1 HX
  go_wp2_with fail
  have c1 := great_any x c a w1 HX1.out (by omega) (fun t ht => by have := HTA.out t ht; omega)
  rw [HA.out] at c1
  refine c1.mono ?_
  rintro e w2 ⟨rfl, rfl⟩
  clear c1
  go_wp2_with fail
  go_ret
  exact ⟨rfl, HB1.out⟩

theorem long_yes (w : World) (x : Option Addr) (a : List (List UInt8)) (c : Nat) (hx : StrsAt x a w) (na : a.length ≤ 140737488351232) (ta : ∀ t ∈ a, t.length ≤ 140737488351232) (s : List UInt8) (hs : s.length ≤ 140737488351232) (ha : greatB a = false) (hl : 1024 < s.length) :
    Calls Try.prog 9 #[.slice x a.length c, .string ⟨s.toArray⟩] w fun e w' => e = .returned (.bool true) ∧ Below w.heap.size w w' := by
  have HX := Lib.hid hx
  have HA := Lib.hid ha
  have HTA := Lib.hid ta
  have hd : decide ((1024 : Int) < (s.length : Int)) = true := by simp; omega
  clear hx ha ta
  go_enter Try.func9, Try.ntmps9
  go_wp2_with fail
  refine (alive_any _).mono ?_
  rintro e w1 ⟨rfl, hb1⟩
  have HB1 := Lib.hid hb1
  have HX1 := Lib.hid (HX.out.below hb1)
  clear hb1 HX
  go_wp2_with fail
  have c1 := great_any x c a w1 HX1.out (by omega) (fun t ht => by have := HTA.out t ht; omega)
  rw [HA.out] at c1
  refine c1.mono ?_
  rintro e w2 ⟨rfl, rfl⟩
  clear c1
  go_wp2_with fail
  go_ret
  exact ⟨rfl, HB1.out⟩

theorem cat2 (l : List UInt8) : (({ data := l.toArray } : ByteArray) ++ { data := #[9] }) = { data := (l ++ [9]).toArray } := by
  apply ByteArray.ext; rw [ByteArray.data_append]; simp
theorem cat3 (l s : List UInt8) : (({ data := l.toArray } : ByteArray) ++ { data := s.toArray }) = { data := (l ++ s).toArray } := by
  apply ByteArray.ext; rw [ByteArray.data_append]; simp

theorem rd_list {a : List (List UInt8)} (ha : greatB a = false) (s : List UInt8) : rdList (listB a ++ 9 :: s) = (a, 9 :: s, false) := by
  obtain ⟨a1, _, a3, _⟩ := greatB_false ha
  have e := takeList_listB (l := a) (by omega) (fun t ht => by have := a3 t ht; omega) (9 :: s)
  unfold rdList
  rw [e]
theorem rd_num (s : List UInt8) : rdNum (9 :: s) = (0, [], true) := by
  unfold rdNum; rw [takeNum_big s (by decide)]

set_option maxHeartbeats 1000000 in
theorem small (w : World) (x : Option Addr) (a : List (List UInt8)) (c : Nat) (hx : StrsAt x a w) (na : a.length ≤ 140737488351232) (ta : ∀ t ∈ a, t.length ≤ 140737488351232) (s : List UInt8) (ha : greatB a = false) (hl : s.length ≤ 1024) :
    Calls Try.prog 9 #[.slice x a.length c, .string ⟨s.toArray⟩] w fun e w' => e = .returned (.bool true) ∧ Below w.heap.size w w' := by
  have HX := Lib.hid hx
  have HA := Lib.hid ha
  have HTA := Lib.hid ta
  have la := (greatB_false ha).2.2.2
  have hd : decide ((1024 : Int) < (s.length : Int)) = false := by simp; omega
  have h2 := cat2 (listB a)
  have h3 := cat3 (listB a ++ [9]) s
  have R1 := Lib.hid (rd_list ha s)
  clear hx ha ta
  go_enter Try.func9, Try.ntmps9
  go_wp2_with fail
  refine (alive_any _).mono ?_
  rintro e w1 ⟨rfl, hb1⟩
  have HB1 := Lib.hid hb1
  have HX1 := Lib.hid (HX.out.below hb1)
  clear hb1
  go_wp2_with fail
  have c1 := great_any x c a w1 HX1.out (by omega) (fun t ht => by have := HTA.out t ht; omega)
  rw [HA.out] at c1
  refine c1.mono ?_
  rintro e w2 ⟨rfl, rfl⟩
  clear c1
  go_wp2_with fail
  refine (list_any x c a _ HX1.out (by omega) (by omega)).mono ?_
  rintro e w2 ⟨rfl, hb2⟩
  have HB2 := Lib.hid (HB1.out.trans (hb2.mono HB1.out.size))
  have HX2 := Lib.hid (HX1.out.below hb2)
  clear hb2 HB1 HX1
  go_wp2_with fail
  refine (open_ok _ _ (by simp; omega)).mono ?_
  rintro e w3 ⟨rfl, hr3, hb3⟩
  have HR3 := Lib.hid hr3
  have HS := Lib.hid HB2.out.size
  have HB3 := Lib.hid (HB2.out.trans (hb3.mono HB2.out.size))
  have HX3 := Lib.hid (HX2.out.below hb3)
  clear hr3 hb3 HB2 HX2 h2 h3
  go_wp2_with fail
  have c2 := rlist_any _ _ false _ HR3.out (fun h => by cases h) (by simp; omega)
  rw [R1.out] at c2
  refine c2.mono ?_
  rintro e w4 ⟨v, rfl, ho, hr4, hb4⟩
  obtain ⟨ao, cap, rfl⟩ := ho.form
  have HO4 := Lib.hid ho
  have HR4 := Lib.hid hr4
  have HB4 := Lib.hid (hb4.toBelow HB3.out HS.out HB3.out.size)
  have HX4 := Lib.hid (HX.out.below HB4.out)
  have hlt := HR3.out.lt
  clear c2 ho hr4 hb4 HR3 HB3 HX3
  go_wp2_with fail
  have c3 := rnum_any _ _ false _ HR4.out (fun h => by cases h)
  rw [rd_num s] at c3
  refine c3.mono ?_
  rintro e w5 ⟨rfl, hr5, hb5⟩
  have HR5 := Lib.hid hr5
  have HB5 := Lib.hid (hb5.toBelow HB4.out HS.out HB4.out.size)
  have HO5 := Lib.hid (HO4.out.but hb5 hlt)
  clear c3 hr5 hb5 HR4 HB4 HX4 HO4
  go_wp2_with fail
  have c4 := rtext_any _ _ true _ HR5.out (fun _ => rfl) (by simp)
  rw [show rdText [] = ([], [], true) from rfl] at c4
  refine c4.mono ?_
  rintro e w6 ⟨rfl, hr6, hb6⟩
  have HR6 := Lib.hid hr6
  have HB6 := Lib.hid (hb6.toBelow HB5.out HS.out HB5.out.size)
  have HO6 := Lib.hid (HO5.out.but hb6 hlt)
  clear c4 hr6 hb6 HR5 HB5 HO5
  go_wp2_with fail
  have c5 := rlist_any _ _ true _ HR6.out (fun _ => rfl) (by simp)
  rw [show rdList [] = ([], [], true) from rfl] at c5
  refine c5.mono ?_
  rintro e w7 ⟨v, rfl, ho, hr7, hb7⟩
  obtain ⟨ao2, cap2, rfl⟩ := ho.form
  have HR7 := Lib.hid hr7
  have HB7 := Lib.hid (hb7.toBelow HB6.out HS.out HB6.out.size)
  have HO7 := Lib.hid (HO6.out.but hb7 hlt)
  clear c5 ho hr7 hb7 HR6 HB6 HO6
  go_wp2_with fail
  have c6 := same_any ao x cap c a a w7 (strsAt_own HO7.out) (HX.out.below HB7.out) (by omega)
  rw [decide_eq_true (rfl : a = a)] at c6
  refine c6.mono ?_
  rintro e w8 ⟨rfl, hb8⟩
  have HR8 := Lib.hid (HR7.out.below hb8)
  have HB8 := Lib.hid (HB7.out.trans (hb8.mono HB7.out.size))
  clear c6 hb8 HR7 HB7 HO7
  go_wp2_with fail
  have c7 := rnum_any _ _ true _ HR8.out (fun _ => rfl)
  rw [show rdNum [] = (0, [], true) from rfl] at c7
  refine c7.mono ?_
  rintro e w9 ⟨rfl, hr9, hb9⟩
  have HR9 := Lib.hid hr9
  have HB9 := Lib.hid (hb9.toBelow HB8.out HS.out HB8.out.size)
  clear c7 hr9 hb9 HR8 HB8
  go_wp2_with fail
  refine (end_failed _ _ _ HR9.out).mono ?_
  rintro e w10 ⟨rfl, rfl⟩
  go_wp2_with fail
  go_ret
  exact ⟨rfl, HB9.out⟩

theorem walk (w : World) (x : Option Addr) (a : List (List UInt8)) (c : Nat) (hx : StrsAt x a w) (na : a.length ≤ 140737488351232) (ta : ∀ t ∈ a, t.length ≤ 140737488351232) (s : List UInt8) (hs : s.length ≤ 140737488351232) :
    Calls Try.prog 9 #[.slice x a.length c, .string ⟨s.toArray⟩] w fun e w' => e = .returned (.bool true) ∧ Below w.heap.size w w' := by
  cases ha : greatB a with
  | true => exact great_yes w x a c hx na ta s ha
  | false =>
    by_cases hl : 1024 < s.length
    · exact long_yes w x a c hx na ta s hs ha hl
    · exact small w x a c hx na ta s ha (by omega)
end Go.Proofs.Ytkcmadehoafckaa.packStops
