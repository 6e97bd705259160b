/-
  What the laws of layer 9 ask first: great.
-/
import Derived.Test.YthgfpojfnhkckaaDoorOpLit
namespace Go.Proofs.YthgfpojfnhkckaaDoor
open Go.RowKit Go.BigFrame

def great9N (o : OpN) : Bool := decide (70 < o.preds.length ∨ 512 < o.d.key.length ∨ 512 < o.d.val.length)
set_option maxHeartbeats 1000000 in
set_option maxRecDepth 100000 in
theorem great9_any (o : OpN) (pa : Option Addr) (pc : Nat) (w : World) (hr : o.d.ref.length = 32) (hn : o.preds.length ≤ 140737488351232) (hk : o.d.key.length ≤ 140737488351232) (hv : o.d.val.length ≤ 140737488351232) :
    Calls Tryd.prog 6 #[.agg (opV o pa pc)] w fun e w' => e = .returned (.bool (great9N o)) ∧ Below w.heap.size w w' := by
  have hx : Cells w.heap.size 30 (opV o pa pc) (w.alloc (.cells (opV o pa pc) 30)) := heap_alloc_new w _
  have hb : Below w.heap.size w (w.alloc (.cells (opV o pa pc) 30)) := (Below.refl _ _).alloc (Nat.le_refl _) _
  obtain ⟨r0, _, _, c37⟩ := op_cells hr hx
  obtain ⟨_, c1, c2, _⟩ := op_fields r0
  have HB := Lib.hid hb
  obtain ⟨n, hnn⟩ : ∃ n, o.preds.length = n := ⟨_, rfl⟩
  obtain ⟨kl, hkl⟩ : ∃ n, o.d.key.length = n := ⟨_, rfl⟩
  obtain ⟨vl, hvl⟩ : ∃ n, o.d.val.length = n := ⟨_, rfl⟩
  have HG := Shut.mk (show great9N o = decide (70 < n ∨ 512 < kl ∨ 512 < vl) by rw [great9N, hnn, hkl, hvl])
  rw [hnn] at c37 hn
  clear r0 hx hb hr hnn
  by_cases h1 : 70 < n
  · have h1i : (70 : Int) < (n : Int) := by omega
    have HR := Shut.mk (HG.out.trans (decide_eq_true (by omega)))
    go_enter Tryd.func6, Tryd.ntmps6
    go_wp2_with fail
    go_ret
    exact ⟨by rw [HR.out]; rfl, HB.out⟩
  have h1i : ¬ (70 : Int) < (n : Int) := by omega
  by_cases h2 : 512 < kl
  · have h2i : (512 : Int) < (kl : Int) := by omega
    have HR := Shut.mk (HG.out.trans (decide_eq_true (by omega)))
    go_enter Tryd.func6, Tryd.ntmps6
    go_wp2_with fail
    go_ret
    exact ⟨by rw [HR.out]; rfl, HB.out⟩
  have h2i : ¬ (512 : Int) < (kl : Int) := by omega
  by_cases h3 : 512 < vl
  · have h3i : (512 : Int) < (vl : Int) := by omega
    have HR := Shut.mk (HG.out.trans (decide_eq_true (by omega)))
    go_enter Tryd.func6, Tryd.ntmps6
    go_wp2_with fail
    go_ret
    exact ⟨by rw [HR.out]; rfl, HB.out⟩
  have h3i : ¬ (512 : Int) < (vl : Int) := by omega
  have HR := Shut.mk (HG.out.trans (decide_eq_false (by omega)))
  go_enter Tryd.func6, Tryd.ntmps6
  go_wp2_with fail
  go_ret
  exact ⟨by rw [HR.out]; rfl, HB.out⟩
end Go.Proofs.YthgfpojfnhkckaaDoor
