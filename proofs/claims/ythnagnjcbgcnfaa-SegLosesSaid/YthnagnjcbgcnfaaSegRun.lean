/-
  The sectors of a batch, written one by one: plain mathematics; which blocks of a disk hold cells.
-/
import Derived.Test.YthnagnjcbgcnfaaSegChunk
namespace Go.Proofs.Ythnagnjcbgcnfaa
open Go.RowKit Go.BigFrame

/-- The sectors S' has from number k on, written in the order r, from sector a on. -/
def runW (S' : List UInt8) (k : Nat) : List Nat → Nat → DS → DS
  | [], _, s => s
  | x :: r, a, s => runW S' k r (a + 1) (writeS s (a : Int) (partS S' (k + x)))
def okW (S' : List UInt8) (k : Nat) : List Nat → Nat → DS → Prop
  | [], _, _ => True
  | x :: r, a, s => writeE s (a : Int) (partS S' (k + x)) = 0 ∧ okW S' k r (a + 1) (writeS s (a : Int) (partS S' (k + x)))
theorem runW_snoc (S' : List UInt8) (k x : Nat) : ∀ (r : List Nat) (a : Nat) (s : DS), runW S' k (r ++ [x]) a s = writeS (runW S' k r a s) ((a + r.length : Nat) : Int) (partS S' (k + x))
  | [], a, s => by simp [runW]
  | y :: r, a, s => by
    rw [List.cons_append, runW, runW_snoc S' k x r, runW, List.length_cons, show a + 1 + r.length = a + (r.length + 1) by omega]
theorem okW_snoc (S' : List UInt8) (k x : Nat) : ∀ (r : List Nat) (a : Nat) (s : DS), okW S' k (r ++ [x]) a s ↔ okW S' k r a s ∧ writeE (runW S' k r a s) ((a + r.length : Nat) : Int) (partS S' (k + x)) = 0
  | [], a, s => by simp [okW, runW]
  | y :: r, a, s => by
    rw [List.cons_append, okW, okW_snoc S' k x r, okW, runW, List.length_cons, show a + 1 + r.length = a + (r.length + 1) by omega, and_assoc]
theorem runW_fit (S' : List UInt8) (k : Nat) : ∀ (r : List Nat) (a : Nat) (s : DS) (n : Nat), Fit s n → Fit (runW S' k r a s) (n + r.length)
  | [], _, _, _, h => h
  | x :: r, a, s, n, h => by
    rw [runW, List.length_cons, show n + (r.length + 1) = n + 1 + r.length by omega]
    exact runW_fit S' k r _ _ _ (h.write _ _)
theorem runW_len (S' : List UInt8) (k : Nat) : ∀ (r : List Nat) (a : Nat) (s : DS), (runW S' k r a s).safe.length = s.safe.length
  | [], _, _ => rfl
  | x :: r, a, s => by rw [runW, runW_len S' k r, writeS_len]
theorem writeS_fuse {s : DS} (h : s.fuse = 0) (a : Int) (b : List UInt8) : (writeS s a b).fuse = 0 := by
  rw [writeS]
  split
  · exact actS_fuse h
  · exact h
theorem runW_fuse (S' : List UInt8) (k : Nat) : ∀ (r : List Nat) (a : Nat) (s : DS), s.fuse = 0 → (runW S' k r a s).fuse = 0
  | [], _, _, h => h
  | x :: r, a, s, h => by
    rw [runW]
    exact runW_fuse S' k r _ _ (writeS_fuse h _ _)
theorem syncS_fuse {s : DS} (h : s.fuse = 0) : (syncS s).fuse = 0 := by
  rw [syncS]
  split
  · exact h
  · split
    · exact actS_fuse h
    · exact actS_fuse h
/-- Sectors written without an error. -/
theorem mid_run {s : DS} {e : Nat} {S S' : List UInt8} {k : Nat} (h : Mid s e S S' k) : ∀ j, (∀ i, i < j → 128 * (k + i) < S'.length) → okW S' k (List.range j) (2 + k) s → Mid (runW S' k (List.range j) (2 + k) s) e S S' (k + j)
  | 0, _, _ => h
  | j + 1, hj, ho => by
    rw [List.range_succ] at ho ⊢
    rw [okW_snoc, List.length_range] at ho
    rw [runW_snoc, List.length_range]
    have hm := mid_run h j (fun i hi => hj i (by omega)) ho.1
    have hlt := hj j (by omega)
    have he := ho.2
    rw [show 2 + k + j = 2 + (k + j) by omega] at he ⊢
    rw [hm.writeE hlt] at he
    have hf : failS (runW S' k (List.range j) (2 + k) s) = false := by
      cases hh : failS (runW S' k (List.range j) (2 + k) s) with
      | false => rfl
      | true => rw [hh] at he; cases he
    exact hm.write hlt hf
/-- The first error. -/
theorem mid_stop {s : DS} {e : Nat} {S S' : List UInt8} {k j : Nat} (h : Mid s e S S' k) (hj : ∀ i, i < j + 1 → 128 * (k + i) < S'.length) (ho : okW S' k (List.range j) (2 + k) s) (hne : writeE (runW S' k (List.range j) (2 + k) s) ((2 + k + j : Nat) : Int) (partS S' (k + j)) ≠ 0) :
    writeE (runW S' k (List.range j) (2 + k) s) ((2 + k + j : Nat) : Int) (partS S' (k + j)) = 7 ∧ s.fuse ≠ 0 ∧ Down (runW S' k (List.range (j + 1)) (2 + k) s) e S := by
  have hm := mid_run h j (fun i hi => hj i (by omega)) ho
  have hlt := hj j (by omega)
  rw [show 2 + k + j = 2 + (k + j) by omega] at hne ⊢
  rw [hm.writeE hlt] at hne ⊢
  have hf : failS (runW S' k (List.range j) (2 + k) s) = true := by
    cases hh : failS (runW S' k (List.range j) (2 + k) s) with
    | true => rfl
    | false => rw [hh] at hne; exact absurd rfl hne
  refine ⟨by rw [hf]; rfl, fun h0 => ?_, ?_⟩
  · have h1 := runW_fuse S' k (List.range j) (2 + k) s h0
    rw [failS_fuse h1] at hf
    cases hf
  · rw [List.range_succ, runW_snoc, List.length_range, show 2 + k + j = 2 + (k + j) by omega]
    exact hm.write_fails hlt hf

/-! ### Blocks of cells -/
theorem DiskIs.isCells {O : Nat → Prop} {v : Value} {s : DS} {w : World} (h : DiskIs O v s w) {b : Nat} (hb : O b) : ∃ cs t, w.heap[b]? = some (.cells cs t (0, 0)) := by
  obtain ⟨g, vN, vS, vP, kp, _, rfl, h, _⟩ := h
  rcases hb with rfl | hb | hb | hb
  · exact ⟨_, _, h.cells⟩
  · obtain ⟨cs, hh⟩ := h.now.heap hb
    exact ⟨cs, _, hh⟩
  · obtain ⟨cs, hh⟩ := h.safe.heap hb
    exact ⟨cs, _, hh⟩
  · obtain ⟨cs, hh⟩ := h.pend.heap hb
    exact ⟨cs, _, hh⟩
/-- A block that holds no cells is none of the disk's. -/
theorem DiskIs.notIn {O : Nat → Prop} {v : Value} {s : DS} {w : World} (h : DiskIs O v s w) {b : Nat} {o : Obj} (hb : w.heap[b]? = some o) (ho : o.isCells = false) : ¬ O b := fun hO => by
  obtain ⟨cs, t, hh⟩ := h.isCells hO
  rw [hb] at hh
  cases hh
  cases ho
theorem Only.grown' {w w' : World} {row : Option Nat} (h : w.grownBy w' row) : Only (fun b => row = some b) w w' := ⟨h.os, h.tape, h.output, h.size, fun k hk hne => h.block k hk (fun e => hne e.symm)⟩
end Go.Proofs.Ythnagnjcbgcnfaa
