/-
  What the laws of layer 6 ask first.
-/
import Derived.Test.YtcjjhddppcmgoaaDoorKeysDev
namespace Go.Proofs.YtcjjhddppcmgoaaDoor
open Go.RowKit Go.BigFrame

set_option maxHeartbeats 1000000 in
set_option maxRecDepth 100000 in
theorem alive6_any (w : World) (hk : KAt w) :
    Calls Tryd.prog 8 #[] w fun e w' => e = .returned (.bool true) ∧ Below w.heap.size w w' := by
  have HK := Lib.hid hk
  clear hk
  go_enter Tryd.func8, Tryd.ntmps8
  go_wp2_with fail
  refine (dev_new [115, 101, 101, 100] 1 w (by decide) (by decide) (by decide) HK.out).mono ?_
  rintro e w1 ⟨⟨v, rfl, hv⟩, hb1⟩
  have HV := Lib.hid hv
  have HB1 := Lib.hid hb1
  clear hv hb1 HK
  go_wp2_with fail
  refine (dev_new_not [115, 101, 101, 100] 0 w1 (by decide) (.inr (.inl (by decide)))).mono ?_
  rintro e w2 ⟨rfl, hb2⟩
  have HV2 := Lib.hid (HV.out.below hb2)
  have HB2 := Lib.hid (HB1.out.trans (hb2.mono HB1.out.size))
  clear hb2 HV HB1
  go_wp2_with fail
  refine (dev_sign_spent v [115, 101, 101, 100] 1 2 [116, 101, 120, 116] w2 HV2.out (.inr (by decide))).mono ?_
  rintro e w3 ⟨rfl, hb3⟩
  have HV3 := Lib.hid (HV2.out.below hb3)
  have HB3 := Lib.hid (HB2.out.trans (hb3.mono HB2.out.size))
  clear hb3 HV2 HB2
  go_wp2_with fail
  refine (dev_count v [115, 101, 101, 100] 1 w3 HV3.out).mono ?_
  rintro e w4 ⟨rfl, hb4⟩
  rw [show ((2 ^ 1 : Nat) : Int) = 2 from rfl]
  have HB4 := Lib.hid (HB3.out.trans (hb4.mono HB3.out.size))
  clear hb4 HB3
  go_wp2_with fail
  refine (dev_size 1 w4 (by decide) (by decide)).mono ?_
  rintro e w5 ⟨rfl, hb5⟩
  rw [show (560 + 16 * 1 : Int) = 576 from rfl]
  have HB5 := Lib.hid (HB4.out.trans (hb5.mono HB4.out.size))
  clear hb5 HB4
  go_wp2_with fail
  go_ret
  exact ⟨rfl, HB5.out⟩
end Go.Proofs.YtcjjhddppcmgoaaDoor
