/-
  What lies where of the developers' keys.
-/
import Derived.Test.YtcjjhddppcmgoaaDoorKeysElems
import Derived.Test.YtcjjhddppcmgoaaDoorNode
import Derived.Test.YtcjjhddppcmgoaaDoorTreeDev
import Derived.Test.YtcjjhddppcmgoaaDoorOnceDev
import Derived.Test.YtcjjhddppcmgoaaDoorClone
namespace Go.Proofs.YtcjjhddppcmgoaaDoor
open Go.RowKit Go.BigFrame

theorem goodN_two {h : Nat} (h8 : h ≤ 8) : goodN (2 ^ h) = true := by
  have key : ∀ n : Fin 9, goodN (2 ^ n.val) = true := by decide
  exact key ⟨h, by omega⟩
theorem shl_two {h : Nat} (h8 : h ≤ 8) : wrap64 ((2 : Int) ^ h) = ((2 ^ h : Nat) : Int) := by
  have key : ∀ n : Fin 9, wrap64 ((2 : Int) ^ n.val) = ((2 ^ n.val : Nat) : Int) := by decide +kernel
  exact key ⟨h, by omega⟩
theorem two_le {h : Nat} (h8 : h ≤ 8) : 2 ^ h ≤ 256 := Nat.le_trans (Nat.pow_le_pow_right (by decide) h8) (by decide)

/-- The first i leaves, the others zero. -/
def partF (seed : List UInt8) (n i : Nat) : List (List Nat) := leavesN seed i ++ List.replicate (n - i) (List.replicate 16 0)
theorem partF_zero (seed : List UInt8) (n : Nat) : partF seed n 0 = List.replicate n (List.replicate 16 0) := by simp [partF, leavesN]
theorem partF_full (seed : List UInt8) (n : Nat) : partF seed n n = leavesN seed n := by simp [partF]
theorem partF_len (seed : List UInt8) {n i : Nat} (h : i ≤ n) : (partF seed n i).length = n := by
  rw [partF, List.length_append, leavesN_len, List.length_replicate]; omega
theorem partF_ok (seed : List UInt8) (n i : Nat) : Elems (partF seed n i) := (leavesN_ok seed i).append (Elems.zeros _)
theorem partF_set (seed : List UInt8) {n i : Nat} (h : i < n) : (partF seed n i).set i (leafN seed (i : Int)) = partF seed n (i + 1) := by
  rw [partF, partF, leavesN_next, List.set_append_right _ _ (by rw [leavesN_len]; exact Nat.le_refl _), leavesN_len, Nat.sub_self, show n - i = (n - (i + 1)) + 1 by omega, List.replicate_succ, List.set_cons_zero, List.append_assoc]
  rfl

/-- The cells of keys: the seed, the leaves, the node. -/
def keysV (seed : List UInt8) (ao : Option Addr) (n cap : Nat) (root : List Nat) (h : Int) : Array Value := (Value.string ⟨seed.toArray⟩ :: Value.slice ao n cap :: (nums .u8 root ++ [Value.int .i64 h])).toArray
/-- Keys lie there. -/
structure KeysIs (v : Value) (seed : List UInt8) (h : Nat) (w : World) : Prop where
  lie : ∃ g ao cap, v = .pointer (some ⟨g, 0, none⟩) ∧ Cells g 54 (keysV seed ao (2 ^ h) cap (rootK seed h) h) w ∧ EAt ao (leavesN seed (2 ^ h)) w
  low : 1 ≤ h
  high : h ≤ 8
  short : seed.length ≤ 64
theorem KeysIs.ptr {v : Value} {seed : List UInt8} {h : Nat} {w : World} (k : KeysIs v seed h w) : ∃ a, v = .pointer (some a) := by
  obtain ⟨g, _, _, hv, _⟩ := k.lie
  exact ⟨_, hv⟩
theorem KeysIs.below {v : Value} {seed : List UInt8} {h : Nat} {w w' : World} (k : KeysIs v seed h w) (hb : Below w.heap.size w w') : KeysIs v seed h w' := by
  obtain ⟨g, ao, cap, hv, hc, he⟩ := k.lie
  exact ⟨⟨g, ao, cap, hv, hc.below hb, he.below hb⟩, k.low, k.high, k.short⟩
theorem keys_seed {g : Nat} {t : TypeId} {seed : List UInt8} {ao : Option Addr} {n cap : Nat} {root : List Nat} {h : Int} {w : World} (hc : Cells g t (keysV seed ao n cap root h) w) : w.cell? ⟨g, 0, none⟩ = some (.string ⟨seed.toArray⟩) := by
  rw [Lib.cell_of_heap hc]; rfl
theorem keys_leaves {g : Nat} {t : TypeId} {seed : List UInt8} {ao : Option Addr} {n cap : Nat} {root : List Nat} {h : Int} {w : World} (hc : Cells g t (keysV seed ao n cap root h) w) : w.cell? ⟨g, 1, none⟩ = some (.slice ao n cap) := by
  rw [Lib.cell_of_heap hc]; rfl
theorem keys_node {g : Nat} {t : TypeId} {seed : List UInt8} {ao : Option Addr} {n cap : Nat} {root : List Nat} {h : Int} {w : World} (hc : Cells g t (keysV seed ao n cap root h) w) : w.rangeAt g 2 (nodeV root h).toList := by
  intro j v hj
  rw [Lib.cell_of_heap hc, keysV, List.getElem?_toArray, Nat.add_comm 2 j, List.getElem?_cons_succ, List.getElem?_cons_succ]
  exact hj
theorem keys_root {g : Nat} {t : TypeId} {seed : List UInt8} {ao : Option Addr} {n cap : Nat} {root : List Nat} {h : Int} {w : World} (hc : Cells g t (keysV seed ao n cap root h) w) : w.rangeAt g 2 (nums .u8 root) := by
  intro j v hj
  refine keys_node hc j v ?_
  rw [nodeV, List.getElem?_append_left (List.getElem?_eq_some_iff.1 hj).1]
  exact hj
theorem clone6 (s : ByteArray) (w : World) (hlim : s.size ≤ 281474976710656) :
    Calls Tryd.prog 25 #[.string s] w fun e w' => e = .returned (.string s) ∧ Below w.heap.size w w' := by
  go_enter Tryd.func25, Tryd.ntmps25
  go_wp2_with fail
  refine (Tryd.stringslite_Clone s _ hlim).mono ?_
  rintro e w1 ⟨rfl, hb⟩
  have HB := Lib.hid hb
  clear hb
  go_wp2_with fail
  go_ret
  exact ⟨rfl, HB.out⟩

set_option maxHeartbeats 1000000 in
theorem dev_valid (h : Int) (w : World) (b : Bool) (hb : decide (1 ≤ h ∧ h ≤ 8) = b) :
    Calls Tryd.prog 22 #[.int .i64 h] w fun e w' => e = .returned (.bool b) ∧ w' = w := by
  have HB := Shut.mk hb
  clear hb
  go_enter Tryd.func22, Tryd.ntmps22
  by_cases h1 : h < 1
  · go_wp2_with fail
    go_ret
    exact ⟨by rw [← HB.out, decide_eq_false (show ¬ (1 ≤ h ∧ h ≤ 8) by omega)]; rfl, rfl⟩
  · by_cases h8 : h ≤ 8
    · go_wp2_with fail
      go_ret
      exact ⟨by rw [← HB.out, decide_eq_true (show 1 ≤ h ∧ h ≤ 8 by omega)]; rfl, rfl⟩
    · go_wp2_with fail
      go_ret
      exact ⟨by rw [← HB.out, decide_eq_false (show ¬ (1 ≤ h ∧ h ≤ 8) by omega)]; rfl, rfl⟩
end Go.Proofs.YtcjjhddppcmgoaaDoor
