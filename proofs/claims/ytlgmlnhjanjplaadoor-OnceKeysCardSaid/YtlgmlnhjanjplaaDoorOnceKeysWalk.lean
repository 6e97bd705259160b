/-
  The walk of the law OnceKeys.
-/
import Derived.Test.YtlgmlnhjanjplaaDoorAlive4
namespace Go.Proofs.YtlgmlnhjanjplaaDoor.onceKeys
open Go.RowKit Go.BigFrame

set_option maxHeartbeats 1000000 in
set_option maxRecDepth 100000 in
theorem walk (w : World) (hk : KAt w) (s : List UInt8) (hs : s.length ≤ 140737488351232) (i : Int) (wi : (Lit.int .i64 i).wf = true) (c : Int) (wc : (Lit.int .i64 c).wf = true) :
    Calls Tryd.prog 3 #[.string ⟨s.toArray⟩, .int .i64 i, .int .i64 c] w fun e w' => e = .returned (.bool true) ∧ Below w.heap.size w w' := by
  have HK := Lib.hid hk
  have BI := Lib.hid (bounds_i64 wi)
  have BC := Lib.hid (bounds_i64 wc)
  clear hk wi wc
  go_enter Tryd.func3, Tryd.ntmps3
  go_wp2_with fail
  refine (alive4_any w HK.out).mono ?_
  rintro e w1 ⟨rfl, hb1⟩
  have HB1 := Lib.hid hb1
  have HK1 := Lib.hid (HK.out.below hb1)
  clear hb1 HK
  by_cases hlong : 512 < s.length
  · have hl2 : (512 : Int) < s.length := by omega
    go_wp2_with fail
    go_ret
    exact ⟨rfl, HB1.out⟩
  · have hl2 : ¬ (512 : Int) < s.length := by omega
    have HS := Lib.hid (show s.length ≤ 4000 by omega)
    have XL := secN_len s i c
    have XT := secN_lt s i c
    have YL : (leafN s i).length = 16 := keyN_len _ _
    have YT : ∀ y ∈ leafN s i, y < 256 := keyN_lt _ _
    obtain ⟨X, hX⟩ : ∃ X, secN s i c = X := ⟨_, rfl⟩
    obtain ⟨Y, hY⟩ : ∃ Y, leafN s i = Y := ⟨_, rfl⟩
    rw [hX] at XL XT
    rw [hY] at YL YT
    have HX := Lib.hid hX
    have HY := Lib.hid hY
    have e1 := fun w => equal_elem X X XL XL XT XT w
    have e2 := fun w => equal_elem Y Y YL YL YT YT w
    rw [beq_self_eq_true] at e1 e2
    clear hX hY XL XT YL YT
    go_wp2_with fail
    refine (dev_secret s i c w1 HS.out BI.out.1 BI.out.2 BC.out.1 BC.out.2 HK1.out).mono ?_
    rintro e w2 ⟨rfl, hb2⟩
    rw [HX.out]
    have HB2 := Lib.hid (HB1.out.trans (hb2.mono HB1.out.size))
    have HK2 := Lib.hid (HK1.out.below hb2)
    clear hb2 HB1 HK1
    go_wp2_with fail
    refine (ref_secret s i c w2 HS.out BI.out.1 BI.out.2 BC.out.1 BC.out.2).mono ?_
    rintro e w3 ⟨rfl, hb3⟩
    rw [HX.out]
    have HB3 := Lib.hid (HB2.out.trans (hb3.mono HB2.out.size))
    have HK3 := Lib.hid (HK2.out.below hb3)
    clear hb3 HB2 HK2
    go_wp2_with fail
    refine (dev_leaf s i w3 HS.out BI.out.1 BI.out.2 HK3.out).mono ?_
    rintro e w4 ⟨rfl, hb4⟩
    rw [HY.out]
    have HB4 := Lib.hid (HB3.out.trans (hb4.mono HB3.out.size))
    clear hb4 HB3 HK3
    go_wp2_with fail
    refine (ref_leaf s i w4 HS.out BI.out.1 BI.out.2).mono ?_
    rintro e w5 ⟨rfl, hb5⟩
    rw [HY.out]
    have HB5 := Lib.hid (HB4.out.trans (hb5.mono HB4.out.size))
    clear hb5 HB4
    go_wp2_with fail
    go_ret
    exact ⟨rfl, HB5.out⟩
end Go.Proofs.YtlgmlnhjanjplaaDoor.onceKeys
