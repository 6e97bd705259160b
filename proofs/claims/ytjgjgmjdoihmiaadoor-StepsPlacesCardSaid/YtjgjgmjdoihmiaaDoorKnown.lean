/-
  The document's own H and K: sought (Numbers), published (known), and the same (NumbersAre).
-/
import Derived.Test.YtjgjgmjdoihmiaaDoorNums
import Derived.Maps.AppendAt
namespace Go.Proofs.YtjgjgmjdoihmiaaDoor
open Go.RowKit

def shaH : List Nat := [1779033703, 3144134277, 1013904242, 2773480762, 1359893119, 2600822924, 528734635, 1541459225]
def shaK : List Nat := [1116352408, 1899447441, 3049323471, 3921009573, 961987163, 1508970993, 2453635748, 2870763221, 3624381080, 310598401, 607225278, 1426881987, 1925078388, 2162078206, 2614888103, 3248222580, 3835390401, 4022224774, 264347078, 604807628, 770255983, 1249150122, 1555081692, 1996064986, 2554220882, 2821834349, 2952996808, 3210313671, 3336571891, 3584528711, 113926993, 338241895, 666307205, 773529912, 1294757372, 1396182291, 1695183700, 1986661051, 2177026350, 2456956037, 2730485921, 2820302411, 3259730800, 3345764771, 3516065817, 3600352804, 4094571909, 275423344, 430227734, 506948616, 659060556, 883997877, 958139571, 1322822218, 1537002063, 1747873779, 1955562222, 2024104815, 2227730452, 2361852424, 2428436474, 2756734187, 3204031479, 3329325298]

theorem shaH_roots : ((pst 310).take 8).map (fun p => rootN p false) = shaH := by decide +kernel
theorem shaK_roots : (pst 310).map (fun p => rootN p true) = shaK := by decide +kernel
theorem shaH_len : shaH.length = 8 := by decide
theorem shaK_len : shaK.length = 64 := by decide
theorem shaH_lt : ∀ x ∈ shaH, x < 4294967296 := by decide
theorem shaK_lt : ∀ x ∈ shaK, x < 4294967296 := by decide

theorem OwnN.grown {B : Nat} {e : TypeId} {k : IntKind} {v : Value} {l : List Nat} {w w' : World} {r : Option Nat} (h : OwnN B e k v l w) (hg : w.grownBy w' r) (ap : ∀ g, v.ownBlock = some g → r ≠ some g) : OwnN B e k v l w' := by
  refine World.ownsRow.kept h hg ?_
  cases hv : v.ownBlock with
  | none => exact Or.inl rfl
  | some g => exact Or.inr (fun e => ap g hv e.symm)

theorem OwnN.alloc {B : Nat} {e : TypeId} {k : IntKind} {v : Value} {l : List Nat} {w : World} (h : OwnN B e k v l w) (o : Obj) : OwnN B e k v l (w.alloc o) := World.ownsRow.alloc h o

set_option maxHeartbeats 1000000 in
theorem known_any (w : World) :
    Calls Tryd.prog 27 #[] w fun e w' => e = .returned (.tuple #[.slice (some ⟨w.heap.size, 0, none⟩) 8 8, .slice (some ⟨w.heap.size + 1, 0, none⟩) 64 64]) ∧
      OwnN w.heap.size 57 .u32 (.slice (some ⟨w.heap.size, 0, none⟩) 8 8) shaH w' ∧ OwnN w.heap.size 57 .u32 (.slice (some ⟨w.heap.size + 1, 0, none⟩) 64 64) shaK w' ∧ Below w.heap.size w w' := by
  go_enter Tryd.func27, Tryd.ntmps27
  go_wp2_with fail
  go_ret2
  refine ⟨rfl, ?_, ?_, ((Below.refl _ w).alloc (Nat.le_refl _) _).alloc (by simp) _⟩
  · have h := World.ownsRow_lit (base := w.heap.size) (e := 57) (size := 1) w (nums .u32 shaH).toArray 8 (Nat.le_refl _) (by unfold maxLen; omega) rfl
    exact OwnN.alloc h _
  · have h := World.ownsRow_lit (base := w.heap.size) (e := 57) (size := 1) (w.alloc (.cells (nums .u32 shaH).toArray 57)) (nums .u32 shaK).toArray 64 (by simp) (by unfold maxLen; omega) rfl
    have e : (w.alloc (.cells (nums .u32 shaH).toArray 57)).heap.size = w.heap.size + 1 := by simp
    rw [e] at h
    exact h

def hlN (pl : List Nat) (q : Nat) : List Nat := (pl.take (min q 8)).map (fun p => rootN p false)
def klN (pl : List Nat) (q : Nat) : List Nat := (pl.take q).map (fun p => rootN p true)
theorem hl_next {pl : List Nat} {q : Nat} (hq : q < pl.length) (h8 : q < 8) : hlN pl (q + 1) = hlN pl q ++ [rootN pl[q] false] := by
  unfold hlN
  rw [show min (q + 1) 8 = q + 1 by omega, show min q 8 = q by omega, List.take_succ_eq_append_getElem hq, List.map_append]
  rfl
theorem hl_more {pl : List Nat} {q : Nat} (h8 : ¬ q < 8) : hlN pl (q + 1) = hlN pl q := by
  unfold hlN
  rw [show min (q + 1) 8 = 8 by omega, show min q 8 = 8 by omega]
theorem kl_next {pl : List Nat} {q : Nat} (hq : q < pl.length) : klN pl (q + 1) = klN pl q ++ [rootN pl[q] true] := by
  unfold klN
  rw [List.take_succ_eq_append_getElem hq, List.map_append]
  rfl
theorem hl_len (pl : List Nat) (q : Nat) : (hlN pl q).length ≤ 8 := by unfold hlN; rw [List.length_map, List.length_take]; omega
theorem kl_len (pl : List Nat) (q : Nat) : (klN pl q).length ≤ pl.length := by unfold klN; rw [List.length_map, List.length_take]; omega

/-- No two of them in one row. -/
def Apart (v1 v2 : Value) : Prop := ∀ g, v1.ownBlock = some g → v2.ownBlock ≠ some g

theorem Apart.symm {v1 v2 : Value} (h : Apart v1 v2) : Apart v2 v1 := fun g hg e => h g e hg

/-- One number more in a row of the call's own; another row stays. -/
theorem num_pushed {B : Nat} {w0 wr w3 : World} {v v' v2 : Value} {o : Obj} {l l2 l' : List Nat} {e : TypeId} {k : IntKind} (hB : B ≤ wr.heap.size) (hb : Below B w0 wr) (h1 : OwnN B e k v l wr) (h2 : OwnN B e k v2 l2 wr) (hap : Apart v v2)
    (hgrow : (wr.alloc o).grownBy w3 v.ownBlock) (hrw : v'.ownBlock = v.ownBlock ∨ v'.ownBlock = some (wr.heap.size + 1)) (hown : OwnN B e k v' l' w3) :
    Below B w0 w3 ∧ OwnN B e k v' l' w3 ∧ OwnN B e k v2 l2 w3 ∧ Apart v' v2 := by
  refine ⟨(hb.alloc hB _).grown hgrow (by simp; omega) (fun g hg => (World.ownsRow.lt h1 g hg).1), hown, (h2.alloc o).grown hgrow (fun g hg e => hap g e hg), ?_⟩
  rcases hrw with h | h
  · intro g hg
    rw [h] at hg
    exact hap g hg
  · intro g hg e
    rw [h] at hg
    have := (World.ownsRow.lt h2 g e).2
    simp at hg
    omega

theorem NumsAt.drawn {ao : Option Addr} {k : IntKind} {l : List Nat} {w : World} (h : NumsAt ao k l w) (n : Nat) : NumsAt ao k l (w.drewN n) := h

end Go.Proofs.YtjgjgmjdoihmiaaDoor
