/-
  What the laws of layer 3 ask first.
-/
import Derived.Test.YtjgjgmjdoihmiaaDoorDigD
import Derived.Test.YtjgjgmjdoihmiaaDoorWalkD
namespace Go.Proofs.YtjgjgmjdoihmiaaDoor
open Go.RowKit Go.BigFrame

theorem equal_elem (a b : List Nat) (ha : a.length = 16) (hb : b.length = 16) (la : ∀ x ∈ a, x < 256) (lb : ∀ x ∈ b, x < 256) (w : World) :
    (Op.equalIn 10000 24 (.agg (nums .u8 a).toArray) (.agg (nums .u8 b).toArray)).run Tryd.prog w = .ok (a == b) w :=
  equal_nums _ _ _ Tryd.underlying24 Tryd.underlying5 Tryd.sizeOf5 a b ha hb la lb w
def zeroE : List Nat := List.replicate 16 0
def oneE : List Nat := 1 :: List.replicate 15 0
theorem zeroE_lt : ∀ x ∈ zeroE, x < 256 := by decide
theorem oneE_lt : ∀ x ∈ oneE, x < 256 := by decide
theorem digN_zero : digN zeroE = List.replicate 32 0 ++ [1, 14, 0] := by decide
theorem walk_still (x : List Nat) (pl : List UInt8) (a b : Int) (h : b ≤ a) : walkI x pl a b = x := by
  unfold walkI
  rw [show (min b 15).toNat - (max a 0).toNat = 0 by omega]
  rfl

set_option maxHeartbeats 4000000 in
set_option maxRecDepth 100000 in
theorem alive3_any (w : World) (hk : KAt w) :
    Calls Tryd.prog 8 #[] w fun e w' => e = .returned (.bool true) ∧ Below w.heap.size w w' := by
  have HK := Lib.hid hk
  clear hk
  go_enter Tryd.func8, Tryd.ntmps8
  go_wp2_with fail
  refine (dev_digits zeroE w rfl zeroE_lt).mono ?_
  rintro e w1 ⟨rfl, hb1⟩
  have HB1 := Lib.hid hb1
  have HK1 := Lib.hid (HK.out.below hb1)
  clear hb1 HK
  have HZ := Lib.hid (show Blk w1.heap.size 30 .i64 (List.replicate 35 0) (w1.alloc (.cells (nums .i64 (List.replicate 35 0)).toArray 30)) from heap_alloc_new w1 _)
  have HI := Lib.hid (show (Tryd.prog.info? 30).map (·.size) = some (digN zeroE).length by rw [digN_len rfl]; exact Tryd.infoDg)
  have HL2 := Lib.hid (show (List.replicate 35 0).length = (digN zeroE).length by rw [digN_len rfl]; rfl)
  go_wp2_with (refine wpList_store_nums rfl 30 _ _ rfl rfl w1.heap.size .i64 _ (digN zeroE) 30 rfl rfl HZ.out HI.out HL2.out ?_)
  intro w2 hc hb
  have hc2 : Blk w1.heap.size 30 .i64 (digN zeroE) w2 := hc.out
  have hb2 : Below w1.heap.size w1 w2 := But.toBelow ((Below.refl _ w1).alloc (Nat.le_refl _) (.cells (nums .i64 (List.replicate 35 0)).toArray 30)) hb.out (Nat.le_refl _) (by simp)
  have HB2 := Lib.hid (HB1.out.trans (hb2.mono HB1.out.size))
  have HK2 := Lib.hid (HK1.out.below hb2)
  have c0 := hc2.cell 0 (by decide)
  have c1 := hc2.cell 32 (by decide)
  have c2 := hc2.cell 33 (by decide)
  have c3 := hc2.cell 34 (by decide)
  rw [digN_zero] at c0 c1 c2 c3
  rw [show (List.replicate 32 0 ++ [1, 14, 0] : List Nat).getD 0 0 = 0 by decide] at c0
  rw [show (List.replicate 32 0 ++ [1, 14, 0] : List Nat).getD 32 0 = 1 by decide] at c1
  rw [show (List.replicate 32 0 ++ [1, 14, 0] : List Nat).getD 33 0 = 14 by decide] at c2
  rw [show (List.replicate 32 0 ++ [1, 14, 0] : List Nat).getD 34 0 = 0 by decide] at c3
  clear hc hb hb2 hc2 HZ HI HL2 HB1 HK1
  have heq : ∀ w, (Op.equalIn 10000 24 (.agg (nums .u8 oneE).toArray) (.agg #[.int .u8 1, .int .u8 0, .int .u8 0, .int .u8 0, .int .u8 0, .int .u8 0, .int .u8 0, .int .u8 0, .int .u8 0, .int .u8 0, .int .u8 0, .int .u8 0, .int .u8 0, .int .u8 0, .int .u8 0, .int .u8 0])).run Tryd.prog w = .ok true w := fun w => by
    have h := equal_elem oneE oneE rfl rfl oneE_lt oneE_lt w
    rw [show (oneE == oneE) = true by decide] at h
    exact h
  go_wp2_with fail
  refine (dev_walk oneE 0 0 3 3 w2 rfl oneE_lt (by decide) (by decide) (by decide) (by decide) (by decide) (by decide) (by decide) (by decide) HK2.out).mono ?_
  rintro e w3 ⟨rfl, hb3⟩
  rw [walk_still _ _ _ _ (by decide)]
  have HB3 := Lib.hid (HB2.out.trans (hb3.mono HB2.out.size))
  clear hb3 HB2 HK2 c0 c1 c2 c3
  go_wp2_with fail
  go_ret
  exact ⟨rfl, HB3.out⟩
end Go.Proofs.YtjgjgmjdoihmiaaDoor
