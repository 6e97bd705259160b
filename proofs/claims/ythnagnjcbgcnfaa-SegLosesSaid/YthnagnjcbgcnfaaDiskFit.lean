/-
  How great a disk is in a law; what a script's call makes of it; what a read answers.
-/
import Derived.Test.YthnagnjcbgcnfaaDiskM
namespace Go.Proofs.Ythnagnjcbgcnfaa
open Go.RowKit Go.BigFrame

/-- As it should be, and no more than n acts and writes. -/
structure Fit (s : DS) (n : Nat) : Prop where
  ok : s.Ok
  acts : s.acts ≤ n
  pend : s.pend.length ≤ n
  fuse : s.fuse ≤ 9223372036854775807
  keep : s.keep < 18446744073709551616
  safe : s.safe.length ≤ 16384
theorem Fit.mono {s : DS} {n m : Nat} (h : Fit s n) (hm : n ≤ m) : Fit s m := ⟨h.ok, Nat.le_trans h.acts hm, Nat.le_trans h.pend hm, h.fuse, h.keep, h.safe⟩
theorem fit_new (n : Int) : Fit (newS n) 0 := ⟨newS_ok n, Nat.le_refl _, Nat.le_refl _, Nat.zero_le _, (show 0 < 18446744073709551616 by decide), by rw [newS, List.length_replicate, sizeN]; omega⟩
theorem Fit.gone {s : DS} {n : Nat} (h : Fit s n) (keep : Nat) : Fit (goneS s keep) n := by
  refine ⟨h.ok.gone keep, ?_, ?_, ?_, ?_, by rw [goneS_len]; exact h.safe⟩ <;> unfold goneS <;> split
  · exact h.acts
  · exact h.acts
  · exact h.pend
  · exact Nat.zero_le _
  · exact h.fuse
  · exact Nat.zero_le _
  · exact h.keep
  · exact h.keep
theorem Fit.act {s : DS} {n : Nat} (h : Fit s n) (hp : s.pend.length ≤ n + 1) : Fit (actS s) (n + 1) := by
  unfold actS
  split
  · exact ⟨⟨h.ok.safe, h.ok.pend⟩, Nat.succ_le_succ h.acts, hp, h.fuse, h.keep, h.safe⟩
  · split
    · exact Fit.gone (s := { s with acts := s.acts + 1, fuse := 0 }) ⟨⟨h.ok.safe, h.ok.pend⟩, Nat.succ_le_succ h.acts, hp, Nat.zero_le _, h.keep, h.safe⟩ _
    · exact ⟨⟨h.ok.safe, h.ok.pend⟩, Nat.succ_le_succ h.acts, hp, by have := h.fuse; simp only; omega, h.keep, h.safe⟩
theorem Fit.act' {s : DS} {n : Nat} (ok : s.Ok) (ha : s.acts ≤ n) (hp : s.pend.length ≤ n + 1) (hf : s.fuse ≤ 9223372036854775807) (hk : s.keep < 18446744073709551616) (hs : s.safe.length ≤ 16384) : Fit (actS s) (n + 1) := by
  unfold actS
  split
  · exact ⟨⟨ok.safe, ok.pend⟩, Nat.succ_le_succ ha, hp, hf, hk, hs⟩
  · split
    · exact Fit.gone (s := { s with acts := s.acts + 1, fuse := 0 }) ⟨⟨ok.safe, ok.pend⟩, Nat.succ_le_succ ha, hp, Nat.zero_le _, hk, hs⟩ _
    · exact ⟨⟨ok.safe, ok.pend⟩, Nat.succ_le_succ ha, hp, by simp only; omega, hk, hs⟩
theorem Fit.write {s : DS} {n : Nat} (h : Fit s n) (at' : Int) (b : List UInt8) : Fit (writeS s at' b) (n + 1) := by
  unfold writeS
  split
  · rename_i h1
    exact Fit.act' (h.ok.put (whyS_zero h1.1).2.1 h1.2) h.acts (by rw [putS]; simp only [List.length_append, List.length_singleton]; have := h.pend; omega) h.fuse h.keep h.safe
  · exact h.mono (Nat.le_succ n)
theorem Fit.sync {s : DS} {n : Nat} (h : Fit s n) : Fit (syncS s) (n + 1) := by
  have ha := h.act (Nat.le_succ_of_le h.pend)
  unfold syncS
  split
  · exact h.mono (Nat.le_succ n)
  · split
    · exact ha
    · exact ⟨⟨applyL_ok _ _ (fun q hq => (h.ok.pend q hq).2) h.ok.safe, fun p hp => by cases hp⟩, ha.acts, Nat.zero_le _, ha.fuse, ha.keep, by rw [applyL_len]; exact h.safe⟩
theorem Fit.arm {s : DS} {n : Nat} (h : Fit s n) {k : Int} (hk : k ≤ 9223372036854775807) {keep : Nat} (hkeep : keep < 18446744073709551616) : Fit (armS s k keep) n := ⟨⟨h.ok.safe, h.ok.pend⟩, h.acts, h.pend, by rw [armS]; simp only; omega, hkeep, h.safe⟩
theorem Fit.on {s : DS} {n : Nat} (h : Fit s n) : Fit (onS s) n := ⟨⟨h.ok.safe, h.ok.pend⟩, h.acts, h.pend, h.fuse, h.keep, h.safe⟩
/-- What a read answers. -/
def readB (s : DS) (at' : Int) : List UInt8 := if whyS s at' = 0 then readS s at'.toNat else []
/-- Bytes in new memory, that may be stored into. -/
def NewB (B : Nat) (ao : Option Addr) (l : List UInt8) (w : World) : Prop := l = [] ∨ ∃ g o, ao = some ⟨g, o, none⟩ ∧ B ≤ g ∧ g < w.heap.size ∧ ∀ j (hj : j < l.length), w.cell? ⟨g, o + j, none⟩ = some (.int .u8 (l[j].toNat : Int)) ∧ w.frozen? ⟨g, o + j, none⟩ = false
theorem NewB.nums {B : Nat} {ao : Option Addr} {l : List UInt8} {w : World} (h : NewB B ao l w) : NumsAt ao .u8 (byteNs l) w := by
  rcases h with rfl | ⟨g, o, h1, _, h2, h3⟩
  · exact .inl rfl
  · exact .inr ⟨g, o, h1, h2, fun j hj => by
      rw [byteNs_len] at hj
      rw [(h3 j hj).1]
      simp [byteNs]⟩
/-- A call of a script. -/
structure CallN where
  kind : Int
  at' : Int
  b : List UInt8
  keep : Nat
def stepS (s : DS) (c : CallN) : DS :=
  if c.kind = 0 then writeS s c.at' c.b else if c.kind = 1 then s else if c.kind = 2 then syncS s else if c.kind = 3 then goneS s c.keep else if c.kind = 4 then onS s else if c.kind = 5 then armS s c.at' c.keep else s
theorem Fit.step {s : DS} {n : Nat} (h : Fit s n) (c : CallN) (ha : c.at' ≤ 9223372036854775807) (hk : c.keep < 18446744073709551616) : Fit (stepS s c) (n + 1) := by
  unfold stepS
  split
  · exact h.write _ _
  · split
    · exact h.mono (Nat.le_succ n)
    · split
      · exact h.sync
      · split
        · exact (h.gone _).mono (Nat.le_succ n)
        · split
          · exact h.on.mono (Nat.le_succ n)
          · split
            · exact (h.arm ha hk).mono (Nat.le_succ n)
            · exact h.mono (Nat.le_succ n)
end Go.Proofs.Ythnagnjcbgcnfaa
