/-
  The walk of the law ShaIs.
-/
import Derived.Test.YtolnbifpnoghlaaDoorShaLaws
namespace Go.Proofs.YtolnbifpnoghlaaDoor.shaIs
open Go.RowKit

set_option maxHeartbeats 4000000 in
theorem walk (w : World) (hk : KAt w) (s : List UInt8) (hs : s.length ≤ 140737488351232) :
    Calls Tryd.prog 3 #[.string ⟨s.toArray⟩] w fun e w' => e = .returned (.bool true) ∧ Below w.heap.size w w' := by
  have HK := Lib.hid hk
  clear hk
  by_cases hlong : 4096 < s.length
  · go_enter Tryd.func3, Tryd.ntmps3
    go_wp2_with fail
    refine (alive2_any w HK.out).mono ?_
    rintro e w1 ⟨rfl, hb1⟩
    have HB1 := Lib.hid hb1
    clear hb1
    go_wp2_with fail
    go_ret
    exact ⟨rfl, HB1.out⟩
  · go_enter Tryd.func3, Tryd.ntmps3
    go_wp2_with fail
    refine (alive2_any w HK.out).mono ?_
    rintro e w1 ⟨rfl, hb1⟩
    have HB1 := Lib.hid hb1
    have HK1 := Lib.hid (HK.out.below hb1)
    clear hb1 HK
    go_wp2_with fail
    refine (numbersAre_any w1).mono ?_
    rintro e w2 ⟨rfl, hb2⟩
    have HB2 := Lib.hid (HB1.out.trans (hb2.mono HB1.out.size))
    have HK2 := Lib.hid (HK1.out.below hb2)
    clear hb2 HB1 HK1
    go_wp2_with fail
    refine (dev_of s w2 (by omega) HK2.out).mono ?_
    rintro e w3 ⟨rfl, hb3⟩
    have HB3 := Lib.hid (HB2.out.trans (hb3.mono HB2.out.size))
    clear hb3 HB2 HK2
    go_wp2_with fail
    refine (of_any s w3 (by omega)).mono ?_
    rintro e w4 ⟨rfl, hb4⟩
    have HB4 := Lib.hid (HB3.out.trans (hb4.mono HB3.out.size))
    clear hb4 HB3
    have he := equal_sha s s
    go_wp2_with fail
    go_ret
    exact ⟨rfl, HB4.out⟩
end Go.Proofs.YtolnbifpnoghlaaDoor.shaIs
