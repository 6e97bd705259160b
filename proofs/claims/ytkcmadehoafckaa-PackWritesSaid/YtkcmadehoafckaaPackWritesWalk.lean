/-
  The walk of the law PackWrites.
-/
import Derived.Test.YtkcmadehoafckaaLaws
import Derived.Test.YtkcmadehoafckaaRefnum
namespace Go.Proofs.Ytkcmadehoafckaa.packWrites
open Go.RowKit

theorem great_yes (w : World) (n : Int) (x : Option Addr) (a : List (List UInt8)) (c : Nat) (hx : StrsAt x a w) (na : a.length ≤ 140737488351232) (ta : ∀ t ∈ a, t.length ≤ 140737488351232) (ha : greatB a = true) :
    Calls Try.prog 3 #[.int .i64 n, .slice x a.length c] w fun e w' => e = .returned (.bool true) ∧ Below w.heap.size w w' := by
  have HX := Lib.hid hx
  have HA := Lib.hid ha
  have HTA := Lib.hid ta
  clear hx ha ta
  go_enter Try.func3, Try.ntmps3
  go_wp2_with fail
  refine (alive_any _).mono ?_
  rintro e w1 ⟨rfl, hb1⟩
  have HB1 := Lib.hid hb1
  have HX1 := Lib.hid (HX.out.below hb1)
  clear hb1 HX
  go_wp2_with fail
  have c1 := great_any x c a w1 HX1.out (by omega) (fun t ht => by have := HTA.out t ht; omega)
  rw [HA.out] at c1
  refine c1.mono ?_
  rintro e w2 ⟨rfl, rfl⟩
  clear c1
  go_wp2_with fail
  go_ret
  exact ⟨rfl, HB1.out⟩

theorem refnum_max (n : Int) (w : World) (hlo : -9223372036854775808 ≤ n) (hhi : n ≤ 9223372036854775807) :
    Calls Try.prog 16 #[.int .i64 (max n 0)] w fun e w' => e = .returned (.string ⟨(numB n.toNat).toArray⟩) ∧ Below w.heap.size w w' := by
  rw [show max n 0 = ((n.toNat : Nat) : Int) by omega]
  exact rnumref_any n.toNat w (by omega)

theorem same_bytes (l : List UInt8) : (l == l) = true := by simp

set_option maxHeartbeats 1000000 in
theorem small (w : World) (n : Int) (hlo : -9223372036854775808 ≤ n) (hhi : n ≤ 9223372036854775807) (x : Option Addr) (a : List (List UInt8)) (c : Nat) (hx : StrsAt x a w) (na : a.length ≤ 140737488351232) (ta : ∀ t ∈ a, t.length ≤ 140737488351232) (ha : greatB a = false) :
    Calls Try.prog 3 #[.int .i64 n, .slice x a.length c] w fun e w' => e = .returned (.bool true) ∧ Below w.heap.size w w' := by
  have HX := Lib.hid hx
  have HA := Lib.hid ha
  have HTA := Lib.hid ta
  have la := (greatB_false ha).2.2.2
  clear hx ha ta
  go_enter Try.func3, Try.ntmps3
  go_wp2_with fail
  refine (alive_any _).mono ?_
  rintro e w1 ⟨rfl, hb1⟩
  have HB1 := Lib.hid hb1
  have HX1 := Lib.hid (HX.out.below hb1)
  clear hb1
  go_wp2_with fail
  have c1 := great_any x c a w1 HX1.out (by omega) (fun t ht => by have := HTA.out t ht; omega)
  rw [HA.out] at c1
  refine c1.mono ?_
  rintro e w2 ⟨rfl, rfl⟩
  clear c1
  go_wp2_with fail
  go_loopw [13] (fun i wr => ∃ q : Nat, q ≤ a.length ∧ i = .int .i64 q ∧ Below w.heap.size w wr) (fun i _ => a.length - (intOf i).toNat)
  case atStart => exact ⟨0, Nat.zero_le _, rfl, HB1.out⟩
  case round =>
    obtain ⟨q, hq, rfl, hbel⟩ := hrel
    have HB := Lib.hid hbel
    by_cases hlt : q < a.length
    · obtain ⟨xb, xo, hxe, hxc⟩ := (HX.out.below hbel).cell hlt
      have hlq : a[q].length ≤ 140737488351232 := HTA.out _ (List.getElem_mem hlt)
      subst hxe
      clear hbel
      go_wp2_with fail
      refine (text_any a[q] _ (by omega)).mono ?_
      rintro e w3 ⟨rfl, hb3⟩
      have HB3 := Lib.hid (HB.out.trans (hb3.mono HB.out.size))
      clear hb3 HB hxc
      go_wp2_with fail
      refine (rtextref_any a[q] _ (by omega)).mono ?_
      rintro e w4 ⟨rfl, hb4⟩
      have HB4 := Lib.hid (HB3.out.trans (hb4.mono HB3.out.size))
      clear hb4 HB3
      go_wp2_with fail
      exact ⟨⟨q + 1, by omega, by go_num, HB4.out⟩, by simp [intOf]; omega⟩
    · obtain rfl : q = a.length := by omega
      have HX3 := Lib.hid (HX.out.below hbel)
      clear hbel
      go_wp2_with fail
      refine (num_int n _ hlo hhi).mono ?_
      rintro e w3 ⟨rfl, hb3⟩
      have HB3 := Lib.hid (HB.out.trans (hb3.mono HB.out.size))
      have HX4 := Lib.hid (HX3.out.below hb3)
      clear hb3 HB HX3
      go_wp2_with fail
      refine (refnum_max n _ hlo hhi).mono ?_
      rintro e w4 ⟨rfl, hb4⟩
      have HB4 := Lib.hid (HB3.out.trans (hb4.mono HB3.out.size))
      have HX5 := Lib.hid (HX4.out.below hb4)
      clear hb4 HB3 HX4
      go_wp2_with fail
      refine (list_any x c a _ HX5.out (by omega) (by omega)).mono ?_
      rintro e w5 ⟨rfl, hb5⟩
      have HB5 := Lib.hid (HB4.out.trans (hb5.mono HB4.out.size))
      have HX6 := Lib.hid (HX5.out.below hb5)
      clear hb5 HB4 HX5
      go_wp2_with fail
      refine (rlistref_any x c a _ HX6.out (by omega) (by omega)).mono ?_
      rintro e w6 ⟨rfl, hb6⟩
      have HB6 := Lib.hid (HB5.out.trans (hb6.mono HB5.out.size))
      clear hb6 HB5 HX6
      go_wp2_with fail
      go_ret
      exact ⟨rfl, HB6.out⟩

theorem walk (w : World) (n : Int) (hn : (Lit.int .i64 n).wf = true) (x : Option Addr) (a : List (List UInt8)) (c : Nat) (hx : StrsAt x a w) (na : a.length ≤ 140737488351232) (ta : ∀ t ∈ a, t.length ≤ 140737488351232) :
    Calls Try.prog 3 #[.int .i64 n, .slice x a.length c] w fun e w' => e = .returned (.bool true) ∧ Below w.heap.size w w' := by
  have bn := bounds_i64 hn
  cases ha : greatB a with
  | true => exact great_yes w n x a c hx na ta ha
  | false => exact small w n bn.1 bn.2 x a c hx na ta ha
end Go.Proofs.Ytkcmadehoafckaa.packWrites
