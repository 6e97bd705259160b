/-
  What the laws of layer 4 ask first.
-/
import Derived.Test.YtlgmlnhjanjplaaDoorOnceQ
import Derived.OpenShut
namespace Go.Proofs.YtlgmlnhjanjplaaDoor
open Go.RowKit Go.BigFrame

theorem sec_seed : secN [115, 101, 101, 100] 3 0 ≠ List.replicate 16 0 := by decide +kernel
def sevenE : List Nat := 7 :: List.replicate 15 0
theorem sevenE_lt : ∀ x ∈ sevenE, x < 256 := by decide

set_option maxHeartbeats 1000000 in
set_option maxRecDepth 100000 in
theorem alive4_any (w : World) (hk : KAt w) :
    Calls Tryd.prog 8 #[] w fun e w' => e = .returned (.bool true) ∧ Below w.heap.size w w' := by
  have HK := Lib.hid hk
  clear hk
  go_enter Tryd.func8, Tryd.ntmps8
  go_wp2_with fail
  refine (dev_sign [115, 101, 101, 100] 3 sevenE w (by decide) (by decide) (by decide) rfl sevenE_lt HK.out).mono ?_
  rintro e w1 ⟨rfl, hb1⟩
  have hlen := signN_len [115, 101, 101, 100] 3 sevenE
  have HB1 := Lib.hid hb1
  have HK1 := Lib.hid (HK.out.below hb1)
  clear hb1 HK
  generalize signN [115, 101, 101, 100] 3 sevenE = S at *
  go_wp2_with fail
  refine (dev_secret [115, 101, 101, 100] 3 0 w1 (by decide) (by decide) (by decide) (by decide) (by decide) HK1.out).mono ?_
  rintro e w2 ⟨rfl, hb2⟩
  have HB2 := Lib.hid (HB1.out.trans (hb2.mono HB1.out.size))
  have heq : ∀ w, (Op.equalIn 10000 24 (.agg (nums .u8 (secN [115, 101, 101, 100] 3 0)).toArray) (.agg #[.int .u8 0, .int .u8 0, .int .u8 0, .int .u8 0, .int .u8 0, .int .u8 0, .int .u8 0, .int .u8 0, .int .u8 0, .int .u8 0, .int .u8 0, .int .u8 0, .int .u8 0, .int .u8 0, .int .u8 0, .int .u8 0])).run Tryd.prog w = .ok false w := fun w => by
    have h := equal_elem (secN [115, 101, 101, 100] 3 0) (List.replicate 16 0) (secN_len _ _ _) rfl (secN_lt _ _ _) (by decide) w
    rw [show (secN [115, 101, 101, 100] 3 0 == List.replicate 16 0) = false from by simpa using sec_seed] at h
    exact h
  clear hb2 HB1 HK1
  generalize secN [115, 101, 101, 100] 3 0 = X at *
  go_wp2_with fail
  go_ret
  exact ⟨rfl, HB2.out⟩
end Go.Proofs.YtlgmlnhjanjplaaDoor
