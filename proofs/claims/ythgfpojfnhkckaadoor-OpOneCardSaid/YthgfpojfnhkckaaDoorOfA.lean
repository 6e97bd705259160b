/-
  The document's Of: what its walk's loops share.
-/
import Derived.Test.YthgfpojfnhkckaaDoorShaM
import Derived.BigRegion
import Derived.Deep.RegionWith
import Derived.StillTailTactics
namespace Go.Proofs.YthgfpojfnhkckaaDoor
open Go.RowKit

/-- A function's loops, in the text's order. -/
def loopsOf : Code → List Code
  | .loop c => c :: loopsOf c
  | .seq a b => loopsOf a ++ loopsOf b
  | .block _ c => loopsOf c
  | .scope c => loopsOf c
  | .cond _ a b => loopsOf a ++ loopsOf b
  | _ => []
noncomputable def loopAt (f : Func) (n : Nat) : Code := ((f.body.map loopsOf).getD []).getD n .skip

/-- A piece's post: it leaves the block k, and R holds of what it leaves. -/
def Ends (k : Nat) (R : Act → World → Prop) : Exit → Act → World → Prop
  | .exit j, a, w => j = k ∧ R a w
  | _, _, _ => False
theorem ends_exit {k : Nat} {R : Act → World → Prop} {a : Act} {w : World} (h : R a w) : Ends k R (.exit k) a w := ⟨rfl, h⟩
theorem wp_ends {P : Program} {c : Code} {k : Nat} {Q : Exit → Act → World → Prop} {a : Act} {w : World} (h : c.wp P (Ends k (fun a w => Q (.exit k) a w)) a w) : c.wp P Q a w := by
  refine wp_mono h ?_
  intro e a w he
  cases e with
  | exit j => obtain ⟨rfl, hr⟩ := he; exact hr
  | _ => exact absurd he (by simp [Ends])

/-- While the zeros come. -/
def zerosL (s : List UInt8) (q : Nat) : List Nat := byteNs s ++ [128] ++ List.replicate q 0
theorem zerosL_len (s : List UInt8) (q : Nat) : (zerosL s q).length = s.length + 1 + q := by simp [zerosL, byteNs_len]; omega
theorem zerosL_next (s : List UInt8) (q : Nat) : zerosL s (q + 1) = zerosL s q ++ [0] := by simp [zerosL, List.replicate_succ']

theorem padN_split (s : List UInt8) : padN s = zerosL s (zerosN s.length) ++ l8 (s.length * 8) 8 := rfl

structure OfSt (w : World) (bv : Value) (p : List Nat) (v : S8) (wr : World) : Prop where
  h : OwnN (w.heap.size + 1) 64 .u32 (.slice (some ⟨w.heap.size + 1, 0, none⟩) 8 8) v.list wr
  k : OwnN (w.heap.size + 1) 64 .u32 (.slice (some ⟨w.heap.size + 1 + 1, 0, none⟩) 64 64) shaK wr
  b : OwnT (w.heap.size + 3) 5 .u8 bv p wr
  r : wr.heap[w.heap.size]? = some (.cells (nums .u8 (List.replicate 32 0)).toArray 25 (0, 0))
  bel : Below w.heap.size w wr

theorem OfSt.below {w : World} {bv : Value} {p : List Nat} {v : S8} {wr w' : World} (h : OfSt w bv p v wr) (b : Below wr.heap.size wr w') : OfSt w bv p v w' :=
  ⟨h.h.below b, h.k.below b, h.b.below b, (b.block _ (lt_of_block h.r)).trans h.r, h.bel.trans (b.mono (h.bel.size))⟩

theorem turn_still (x k : Nat) (w : World) (hx : x < 4294967296) (hk1 : 1 ≤ k) (hk : k ≤ 31) :
    Calls Tryd.prog 44 #[.int .u32 x, .int .u32 k] w fun e w' => e = .returned (.int .u32 (rotr x k)) ∧ w' = w :=
  (turn_any x k w hx hk1 hk).mono fun _ _ h => ⟨h.1, h.2.symm⟩

/-- The words' array while it is filled. -/
def arrW (b : Nat → Nat) (i : Nat) : List Nat := wl b i ++ List.replicate (64 - i) 0
theorem arrW_len (b : Nat → Nat) {i : Nat} (h : i ≤ 64) : (arrW b i).length = 64 := by unfold arrW; rw [List.length_append, wl_len, List.length_replicate]; omega
theorem arrW_zero (b : Nat → Nat) : arrW b 0 = List.replicate 64 0 := rfl
theorem arrW_full (b : Nat → Nat) : arrW b 64 = wl b 64 := by unfold arrW; rw [show 64 - 64 = 0 from rfl, List.replicate_zero, List.append_nil]
theorem arrW_set (b : Nat → Nat) {i x : Nat} (h : i < 64) : (arrW b i).set i x = wl b i ++ [x] ++ List.replicate (64 - (i + 1)) 0 := by
  unfold arrW
  rw [List.set_append_right _ _ (by rw [wl_len]; exact Nat.le_refl _), wl_len, Nat.sub_self, show 64 - i = (64 - (i + 1)) + 1 by omega, List.replicate_succ, List.set_cons_zero, List.append_assoc]
  rfl
theorem arrW_word {b : Nat → Nat} {i : Nat} (h : i < 16) : (arrW b i).set i (wordN b i) = arrW b (i + 1) := by rw [arrW_set b (by omega)]; unfold arrW; rw [wl_word h]
theorem arrW_next {b : Nat → Nat} {i : Nat} (h : ¬ i < 16) (h2 : i < 64) : (arrW b i).set i (nextW (wl b i) i) = arrW b (i + 1) := by rw [arrW_set b h2]; unfold arrW; rw [wl_next h]
theorem arrW_at {b : Nat → Nat} {i : Nat} (h : i < 64) : (arrW b i).set i 0 = arrW b i := by
  rw [arrW_set b h]
  unfold arrW
  rw [show 64 - i = (64 - (i + 1)) + 1 by omega, List.replicate_succ, List.append_assoc]
  rfl
def accN (b : Nat → Nat) (i : Nat) : Nat → Nat
  | 0 => 0
  | q + 1 => 256 * accN b i q + b (4 * i + q)
theorem accN_lt {b : Nat → Nat} (hb : ∀ j, b j < 256) (i q : Nat) (hq : q ≤ 3) : accN b i q < 16777216 := by
  have h0 := hb (4 * i + 0)
  have h1 := hb (4 * i + 1)
  have h2 := hb (4 * i + 2)
  match q, hq with
  | 0, _ => show 0 < _; omega
  | 1, _ => show 256 * 0 + b (4 * i + 0) < _; omega
  | 2, _ => show 256 * (256 * 0 + b (4 * i + 0)) + b (4 * i + 1) < _; omega
  | 3, _ => show 256 * (256 * (256 * 0 + b (4 * i + 0)) + b (4 * i + 1)) + b (4 * i + 2) < _; omega
theorem accN_word (b : Nat → Nat) (i : Nat) : accN b i 4 = wordN b i := by
  show 256 * (256 * (256 * (256 * 0 + b (4 * i + 0)) + b (4 * i + 1)) + b (4 * i + 2)) + b (4 * i + 3) = _
  unfold wordN
  rw [Nat.add_zero]
  omega
def wAt (p : List Nat) (m : Nat) : Nat → Nat := fun j => p.getD (64 * m + j) 0

theorem OfSt.next {w : World} {bv : Value} {p : List Nat} {v v' : S8} {wr w' : World} (h : OfSt w bv p v wr) (b : But (w.heap.size + 1) wr w') (hh : OwnN (w.heap.size + 1) 64 .u32 (.slice (some ⟨w.heap.size + 1, 0, none⟩) 8 8) v'.list w') : OfSt w bv p v' w' := by
  have hsz := h.bel.size
  have hl := (h.h.lt _ rfl).2
  refine ⟨hh, h.k.but b (by rintro g hg rfl; simp [Value.ownBlock] at hg), h.b.but b (by intro g hg e; have := (h.b.lt g hg).1; omega), (b.block _ (lt_of_block h.r) (by omega)).trans h.r, ?_⟩
  exact But.toBelow h.bel b (by omega) hsz
theorem S8.list_len (v : S8) : v.list.length = 8 := rfl
theorem S8.Ok.lt {v : S8} (h : v.Ok) : ∀ x ∈ v.list, x < 4294967296 := by
  intro x hx
  simp only [S8.list, List.mem_cons, List.not_mem_nil, or_false] at hx
  rcases hx with rfl | rfl | rfl | rfl | rfl | rfl | rfl | rfl
  · exact h.a
  · exact h.b
  · exact h.c
  · exact h.d
  · exact h.e
  · exact h.f
  · exact h.g
  · exact h.h
/-- The first q words, with what is added to them. -/
def addL (a b : List Nat) : Nat → List Nat
  | 0 => a
  | q + 1 => (addL a b q).set q ((a.getD q 0 + b.getD q 0) % 4294967296)
theorem addL_len (a b : List Nat) (q : Nat) : (addL a b q).length = a.length := by
  induction q with
  | zero => rfl
  | succ q ih => rw [addL, List.length_set, ih]
theorem addL_at (a b : List Nat) (q j : Nat) (h : q ≤ j) : (addL a b q).getD j 0 = a.getD j 0 := by
  induction q with
  | zero => rfl
  | succ q ih =>
    rw [addL, List.getD_eq_getElem?_getD, List.getElem?_set_ne (by omega), ← List.getD_eq_getElem?_getD, ih (by omega)]
theorem addL_eight (h v : S8) : addL h.list v.list 8 = (addS h v).list := rfl
def outB (l : List Nat) (i : Nat) : Nat := l.getD (i / 4) 0 / 2 ^ (24 - 8 * (i % 4)) % 256
/-- The first q bytes of the digest. -/
def outP (l : List Nat) (q : Nat) : List Nat := (List.range q).map (outB l) ++ List.replicate (32 - q) 0
theorem outP_full (l : List Nat) : outP l 32 = outN l := by simp [outP, outN, outB]
theorem outP_set (l : List Nat) (q : Nat) (h : q < 32) : (outP l q).set q (outB l q) = outP l (q + 1) := by
  unfold outP
  rw [List.set_append_right _ _ (by simp), List.length_map, List.length_range, Nat.sub_self, show 32 - q = (32 - (q + 1)) + 1 by omega, List.replicate_succ, List.set_cons_zero, List.range_succ, List.map_append, List.append_assoc]
  rfl
theorem outP_len (l : List Nat) (q : Nat) (h : q ≤ 32) : (outP l q).length = 32 := by simp [outP]; omega
end Go.Proofs.YthgfpojfnhkckaaDoor
