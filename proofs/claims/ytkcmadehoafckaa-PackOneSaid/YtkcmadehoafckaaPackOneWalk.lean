/-
  The walk of the law PackOne.
-/
import Derived.Test.YtkcmadehoafckaaLaws
namespace Go.Proofs.Ytkcmadehoafckaa.packOne
open Go.RowKit

theorem great_a (w : World) (x : Option Addr) (a : List (List UInt8)) (c : Nat) (hx : StrsAt x a w) (na : a.length ≤ 140737488351232) (ta : ∀ t ∈ a, t.length ≤ 140737488351232)
    (y : Option Addr) (b : List (List UInt8)) (d : Nat) (ha : greatB a = true) :
    Calls Try.prog 7 #[.slice x a.length c, .slice y b.length d] w fun e w' => e = .returned (.bool true) ∧ Below w.heap.size w w' := by
  have HX := Lib.hid hx
  have HA := Lib.hid ha
  have HTA := Lib.hid ta
  clear hx ha ta
  go_enter Try.func7, Try.ntmps7
  go_wp2_with fail
  refine (alive_any _).mono ?_
  rintro e w1 ⟨rfl, hb1⟩
  have HB1 := Lib.hid hb1
  have HX1 := Lib.hid (HX.out.below hb1)
  clear hb1 HX
  go_wp2_with fail
  have c1 := great_any x c a w1 HX1.out (by omega) (fun t ht => by have := HTA.out t ht; omega)
  rw [HA.out] at c1
  refine c1.mono ?_
  rintro e w2 ⟨rfl, rfl⟩
  clear c1
  go_wp2_with fail
  go_ret
  exact ⟨rfl, HB1.out⟩

theorem great_b (w : World) (x : Option Addr) (a : List (List UInt8)) (c : Nat) (hx : StrsAt x a w) (na : a.length ≤ 140737488351232) (ta : ∀ t ∈ a, t.length ≤ 140737488351232)
    (y : Option Addr) (b : List (List UInt8)) (d : Nat) (hy : StrsAt y b w) (nb : b.length ≤ 140737488351232) (tb : ∀ t ∈ b, t.length ≤ 140737488351232) (ha : greatB a = false) (hb : greatB b = true) :
    Calls Try.prog 7 #[.slice x a.length c, .slice y b.length d] w fun e w' => e = .returned (.bool true) ∧ Below w.heap.size w w' := by
  have HX := Lib.hid hx
  have HY := Lib.hid hy
  have HA := Lib.hid ha
  have HB := Lib.hid hb
  have HTA := Lib.hid ta
  have HTB := Lib.hid tb
  clear hx hy ha hb ta tb
  go_enter Try.func7, Try.ntmps7
  go_wp2_with fail
  refine (alive_any _).mono ?_
  rintro e w1 ⟨rfl, hb1⟩
  have HB1 := Lib.hid hb1
  have HX1 := Lib.hid (HX.out.below hb1)
  have HY1 := Lib.hid (HY.out.below hb1)
  clear hb1 HX HY
  go_wp2_with fail
  have c1 := great_any x c a w1 HX1.out (by omega) (fun t ht => by have := HTA.out t ht; omega)
  rw [HA.out] at c1
  refine c1.mono ?_
  rintro e w2 ⟨rfl, rfl⟩
  clear c1
  go_wp2_with fail
  have c2 := great_any y d b w1 HY1.out (by omega) (fun t ht => by have := HTB.out t ht; omega)
  rw [HB.out] at c2
  refine c2.mono ?_
  rintro e w2 ⟨rfl, rfl⟩
  clear c2
  go_wp2_with fail
  go_ret
  exact ⟨rfl, HB1.out⟩

theorem cat_take (l : List UInt8) (n : Nat) : (⟨l.toArray⟩ : ByteArray).extract 0 n = ⟨(l.take n).toArray⟩ := extract_head l n

set_option maxHeartbeats 1000000 in
theorem small (w : World) (x : Option Addr) (a : List (List UInt8)) (c : Nat) (hx : StrsAt x a w) (na : a.length ≤ 140737488351232) (ta : ∀ t ∈ a, t.length ≤ 140737488351232)
    (y : Option Addr) (b : List (List UInt8)) (d : Nat) (hy : StrsAt y b w) (nb : b.length ≤ 140737488351232) (tb : ∀ t ∈ b, t.length ≤ 140737488351232) (ha : greatB a = false) (hb : greatB b = false) :
    Calls Try.prog 7 #[.slice x a.length c, .slice y b.length d] w fun e w' => e = .returned (.bool true) ∧ Below w.heap.size w w' := by
  have HX := Lib.hid hx
  have HY := Lib.hid hy
  have HA := Lib.hid ha
  have HB := Lib.hid hb
  have HTA := Lib.hid ta
  have HTB := Lib.hid tb
  have la := (greatB_false ha).2.2.2
  have lb := (greatB_false hb).2.2.2
  clear hx hy ha hb ta tb
  go_enter Try.func7, Try.ntmps7
  go_wp2_with fail
  refine (alive_any _).mono ?_
  rintro e w1 ⟨rfl, hb1⟩
  have HB1 := Lib.hid hb1
  have HX1 := Lib.hid (HX.out.below hb1)
  have HY1 := Lib.hid (HY.out.below hb1)
  clear hb1 HX HY
  go_wp2_with fail
  have c1 := great_any x c a w1 HX1.out (by omega) (fun t ht => by have := HTA.out t ht; omega)
  rw [HA.out] at c1
  refine c1.mono ?_
  rintro e w2 ⟨rfl, rfl⟩
  clear c1
  go_wp2_with fail
  have c2 := great_any y d b w1 HY1.out (by omega) (fun t ht => by have := HTB.out t ht; omega)
  rw [HB.out] at c2
  refine c2.mono ?_
  rintro e w2 ⟨rfl, rfl⟩
  clear c2
  go_wp2_with fail
  refine (list_any x c a _ HX1.out (by omega) (by omega)).mono ?_
  rintro e w2 ⟨rfl, hb2⟩
  have HB2 := Lib.hid (HB1.out.trans (hb2.mono HB1.out.size))
  have HX2 := Lib.hid (HX1.out.below hb2)
  have HY2 := Lib.hid (HY1.out.below hb2)
  clear hb2 HB1 HX1 HY1
  go_wp2_with fail
  refine (list_any y d b _ HY2.out (by omega) (by omega)).mono ?_
  rintro e w3 ⟨rfl, hb3⟩
  have HB3 := Lib.hid (HB2.out.trans (hb3.mono HB2.out.size))
  have HX3 := Lib.hid (HX2.out.below hb3)
  have HY3 := Lib.hid (HY2.out.below hb3)
  clear hb3 HB2 HX2 HY2
  by_cases hab : a = b
  · subst hab
    go_wp2_with fail
    have c3 := same_any x y c d a a w3 HX3.out HY3.out (by omega)
    rw [decide_eq_true (rfl : a = a)] at c3
    refine c3.mono ?_
    rintro e w4 ⟨rfl, hb4⟩
    have HB4 := Lib.hid (HB3.out.trans (hb4.mono HB3.out.size))
    clear c3 hb4 HB3 HX3 HY3
    go_wp2_with fail
    go_ret
    exact ⟨rfl, HB4.out⟩
  · have t1 := listB_ne HA.out HB.out hab
    have t2 := listB_take_ne HA.out HB.out hab
    have t3 := listB_take_ne HB.out HA.out (fun e => hab e.symm)
    have HN := Lib.hid hab
    have e1 := cat_take (listB b) (listB a).length
    have e2 := cat_take (listB a) (listB b).length
    clear hab
    go_wp2_with fail
    have c3 := same_any x y c d a b w3 HX3.out HY3.out (by omega)
    rw [decide_eq_false HN.out] at c3
    refine c3.mono ?_
    rintro e w4 ⟨rfl, hb4⟩
    have HB4 := Lib.hid (HB3.out.trans (hb4.mono HB3.out.size))
    clear c3 hb4 HB3 HX3 HY3
    rcases Nat.lt_trichotomy (listB a).length (listB b).length with hl | hl | hl
    · have d1 : decide ((listB a).length < (listB b).length) = true := by simpa using hl
      go_wp2_with fail
      go_ret
      exact ⟨rfl, HB4.out⟩
    · have d1 : decide ((listB a).length < (listB b).length) = false := by simp; omega
      have d2 : decide ((listB b).length < (listB a).length) = false := by simp; omega
      have d3 : (((listB a).length : Int) == ((listB b).length : Int)) = true := by simp; omega
      have HLen := Lib.hid hl
      clear hl
      go_wp2_with fail
      go_ret
      exact ⟨rfl, HB4.out⟩
    · have d1 : decide ((listB a).length < (listB b).length) = false := by simp; omega
      have d2 : decide ((listB b).length < (listB a).length) = true := by simpa using hl
      go_wp2_with fail
      go_ret
      exact ⟨rfl, HB4.out⟩

theorem walk (w : World) (x : Option Addr) (a : List (List UInt8)) (c : Nat) (hx : StrsAt x a w) (na : a.length ≤ 140737488351232) (ta : ∀ t ∈ a, t.length ≤ 140737488351232)
    (y : Option Addr) (b : List (List UInt8)) (d : Nat) (hy : StrsAt y b w) (nb : b.length ≤ 140737488351232) (tb : ∀ t ∈ b, t.length ≤ 140737488351232) :
    Calls Try.prog 7 #[.slice x a.length c, .slice y b.length d] w fun e w' => e = .returned (.bool true) ∧ Below w.heap.size w w' := by
  cases ha : greatB a with
  | true => exact great_a w x a c hx na ta y b d ha
  | false =>
    cases hb : greatB b with
    | true => exact great_b w x a c hx na ta y b d hy nb tb ha hb
    | false => exact small w x a c hx na ta y b d hy nb tb ha hb
end Go.Proofs.Ytkcmadehoafckaa.packOne
