/-
  A disk, as plain mathematics: what the document says.
-/
import Derived.Test.YthnagnjcbgcnfaaOnly
namespace Go.Proofs.Ythnagnjcbgcnfaa
open Go.RowKit

/-- A sector's bytes out of a write's. -/
def padN (b : List UInt8) : List UInt8 := b ++ List.replicate (128 - b.length) 0
theorem padN_len {b : List UInt8} (h : b.length ≤ 128) : (padN b).length = 128 := by simp [padN]; omega
/-- What a disk is: the sectors as synced, the writes that wait, .. -/
structure DS where
  safe : List (List UInt8)
  pend : List (Nat × List UInt8)
  off : Bool
  acts : Nat
  fuse : Nat
  keep : Nat
/-- How many sectors a new one has. -/
def sizeN (n : Int) : Nat := min n.toNat 16384
def newS (n : Int) : DS := ⟨List.replicate (sizeN n) (List.replicate 128 0), [], false, 0, 0, 0⟩
/-- A sector as it was written last. -/
def lastOf (at' : Nat) : List (Nat × List UInt8) → List UInt8 → List UInt8
  | [], x => x
  | p :: r, x => lastOf at' r (if p.1 = at' then p.2 else x)
def readS (s : DS) (at' : Nat) : List UInt8 := lastOf at' s.pend (s.safe.getD at' [])
/-- All writes applied. -/
def applyL : List (Nat × List UInt8) → List (List UInt8) → List (List UInt8)
  | [], l => l
  | p :: r, l => applyL r (l.set p.1 p.2)
/-- Those whose bits are set applied; the first has number i. -/
def keptL (keep : Nat) : Nat → List (Nat × List UInt8) → List (List UInt8) → List (List UInt8)
  | _, [], l => l
  | i, p :: r, l => keptL keep (i + 1) r (if keep / 2 ^ (i % 64) % 2 = 1 then l.set p.1 p.2 else l)
def goneS (s : DS) (keep : Nat) : DS := if s.off then s else { s with safe := keptL keep 0 s.pend s.safe, pend := [], off := true, fuse := 0 }
/-- An act: the disk behind it. -/
def actS (s : DS) : DS :=
  if s.fuse = 0 then { s with acts := s.acts + 1 }
  else if s.fuse = 1 then goneS { s with acts := s.acts + 1, fuse := 0 } s.keep
  else { s with acts := s.acts + 1, fuse := s.fuse - 1 }
/-- Does the power fail in the next act? -/
def failS (s : DS) : Bool := s.fuse == 1
/-- Why a sector can't be used. -/
def whyS (s : DS) (at' : Int) : Nat := if at' < 0 ∨ (s.safe.length : Int) ≤ at' then 1 else if s.off then 7 else 0
/-- A write: the answer, and the disk behind it. -/
def writeE (s : DS) (at' : Int) (b : List UInt8) : Nat := if whyS s at' = 0 then if 128 < b.length then 1 else if failS s then 7 else 0 else whyS s at'
def putS (s : DS) (at' : Nat) (b : List UInt8) : DS := { s with pend := s.pend ++ [(at', padN b)] }
def writeS (s : DS) (at' : Int) (b : List UInt8) : DS := if whyS s at' = 0 ∧ b.length ≤ 128 then actS (putS s at'.toNat b) else s
def syncE (s : DS) : Nat := if s.off ∨ failS s = true then 7 else 0
def syncS (s : DS) : DS := if s.off then s else if failS s then actS s else { actS s with safe := applyL s.pend s.safe, pend := [] }
def armS (s : DS) (n : Int) (keep : Nat) : DS := { s with fuse := n.toNat, keep := keep }
def onS (s : DS) : DS := { s with off := false }
/-- It is as it should be: each sector has its bytes, each write its sector. -/
structure DS.Ok (s : DS) : Prop where
  safe : ∀ x ∈ s.safe, x.length = 128
  pend : ∀ p ∈ s.pend, p.1 < s.safe.length ∧ p.2.length = 128
theorem newS_ok (n : Int) : (newS n).Ok := ⟨fun x hx => by rw [(List.mem_replicate.1 hx).2]; rfl, fun p hp => by cases hp⟩
theorem set_ok {l : List (List UInt8)} (h : ∀ x ∈ l, x.length = 128) (i : Nat) {y : List UInt8} (hy : y.length = 128) : ∀ x ∈ l.set i y, x.length = 128 := fun x hx => by
  rcases List.mem_or_eq_of_mem_set hx with hx | rfl
  · exact h x hx
  · exact hy
theorem applyL_len : ∀ (p : List (Nat × List UInt8)) (l : List (List UInt8)), (applyL p l).length = l.length
  | [], _ => rfl
  | p :: r, l => by rw [applyL, applyL_len r, List.length_set]
theorem keptL_len (keep : Nat) : ∀ (p : List (Nat × List UInt8)) (i : Nat) (l : List (List UInt8)), (keptL keep i p l).length = l.length
  | [], _, _ => rfl
  | p :: r, i, l => by
    rw [keptL, keptL_len keep r]
    split <;> simp
theorem applyL_ok : ∀ (p : List (Nat × List UInt8)) (l : List (List UInt8)), (∀ q ∈ p, q.2.length = 128) → (∀ x ∈ l, x.length = 128) → ∀ x ∈ applyL p l, x.length = 128
  | [], _, _, h => h
  | p :: r, l, hp, h => applyL_ok r _ (fun q hq => hp q (by simp [hq])) (set_ok h _ (hp p (by simp)))
theorem keptL_ok (keep : Nat) : ∀ (p : List (Nat × List UInt8)) (i : Nat) (l : List (List UInt8)), (∀ q ∈ p, q.2.length = 128) → (∀ x ∈ l, x.length = 128) → ∀ x ∈ keptL keep i p l, x.length = 128
  | [], _, _, _, h => h
  | p :: r, i, l, hp, h => keptL_ok keep r (i + 1) _ (fun q hq => hp q (by simp [hq])) (by
      split
      · exact set_ok h _ (hp p (by simp))
      · exact h)
theorem DS.Ok.gone {s : DS} (h : s.Ok) (keep : Nat) : (goneS s keep).Ok := by
  unfold goneS
  split
  · exact h
  · exact ⟨keptL_ok keep _ _ _ (fun q hq => (h.pend q hq).2) h.safe, fun p hp => by cases hp⟩
theorem DS.Ok.act {s : DS} (h : s.Ok) : (actS s).Ok := by
  unfold actS
  split
  · exact ⟨h.safe, h.pend⟩
  · split
    · exact DS.Ok.gone (s := { s with acts := s.acts + 1, fuse := 0 }) ⟨h.safe, h.pend⟩ _
    · exact ⟨h.safe, h.pend⟩
theorem DS.Ok.put {s : DS} (h : s.Ok) {at' : Nat} (ha : at' < s.safe.length) {b : List UInt8} (hb : b.length ≤ 128) : (putS s at' b).Ok := ⟨h.safe, fun p hp => by
  rcases List.mem_append.1 hp with hp | hp
  · exact h.pend p hp
  · obtain rfl := List.mem_singleton.1 hp
    exact ⟨ha, padN_len hb⟩⟩
theorem whyS_zero {s : DS} {at' : Int} (h : whyS s at' = 0) : 0 ≤ at' ∧ at'.toNat < s.safe.length ∧ s.off = false := by
  unfold whyS at h
  split at h
  · cases h
  · split at h
    · cases h
    · rename_i h1 h2
      exact ⟨by omega, by omega, by simpa using h2⟩
theorem DS.Ok.write {s : DS} (h : s.Ok) (at' : Int) (b : List UInt8) : (writeS s at' b).Ok := by
  unfold writeS
  split
  · rename_i h1
    exact (h.put (whyS_zero h1.1).2.1 h1.2).act
  · exact h
theorem goneS_len (s : DS) (keep : Nat) : (goneS s keep).safe.length = s.safe.length := by
  unfold goneS
  split
  · rfl
  · exact keptL_len _ _ _ _
theorem actS_len (s : DS) : (actS s).safe.length = s.safe.length := by
  unfold actS
  split
  · rfl
  · split
    · exact goneS_len _ _
    · rfl
theorem DS.Ok.sync {s : DS} (h : s.Ok) : (syncS s).Ok := by
  unfold syncS
  split
  · exact h
  · split
    · exact h.act
    · exact ⟨applyL_ok _ _ (fun q hq => (h.pend q hq).2) h.safe, fun p hp => by cases hp⟩
theorem writeS_len (s : DS) (at' : Int) (b : List UInt8) : (writeS s at' b).safe.length = s.safe.length := by
  unfold writeS
  split
  · rw [actS_len]; rfl
  · rfl
theorem syncS_len (s : DS) : (syncS s).safe.length = s.safe.length := by
  unfold syncS
  split
  · rfl
  · split
    · exact actS_len s
    · exact applyL_len _ _
theorem lastOf_len : ∀ (p : List (Nat × List UInt8)) (at' : Nat) (x : List UInt8), (∀ q ∈ p, q.2.length = 128) → x.length = 128 → (lastOf at' p x).length = 128
  | [], _, _, _, h => h
  | p :: r, at', x, hp, h => lastOf_len r at' _ (fun q hq => hp q (by simp [hq])) (by
      split
      · exact hp p (by simp)
      · exact h)
theorem readS_len {s : DS} (h : s.Ok) {at' : Nat} (ha : at' < s.safe.length) : (readS s at').length = 128 := by
  refine lastOf_len _ _ _ (fun q hq => (h.pend q hq).2) ?_
  rw [List.getD_eq_getElem?_getD, List.getElem?_eq_getElem ha]
  exact h.safe _ (List.getElem_mem ha)
theorem keptL_take (keep : Nat) : ∀ (p : List (Nat × List UInt8)) (l : List (List UInt8)) (i k : Nat) (h : k < p.length), keptL keep i (p.take (k + 1)) l = if keep / 2 ^ ((i + k) % 64) % 2 = 1 then (keptL keep i (p.take k) l).set (p[k]).1 (p[k]).2 else keptL keep i (p.take k) l
  | q :: r, l, i, 0, _ => by simp [keptL]
  | q :: r, l, i, k + 1, h => by
    simp only [List.length_cons] at h
    rw [List.take_succ_cons, List.take_succ_cons, keptL, keptL, keptL_take keep r _ (i + 1) k (by omega)]
    rw [show i + 1 + k = i + (k + 1) by omega]
    simp
theorem applyL_take : ∀ (p : List (Nat × List UInt8)) (l : List (List UInt8)) (k : Nat) (h : k < p.length), applyL (p.take (k + 1)) l = (applyL (p.take k) l).set (p[k]).1 (p[k]).2
  | q :: r, l, 0, _ => by simp [applyL]
  | q :: r, l, k + 1, h => by
    simp only [List.length_cons] at h
    rw [List.take_succ_cons, List.take_succ_cons, applyL, applyL, applyL_take r _ k (by omega)]
    simp
theorem actS_zero {s : DS} (h : s.fuse = 0) : actS s = { s with off := s.off, acts := s.acts + 1, fuse := s.fuse, keep := s.keep } := by rw [actS, if_pos h]
theorem actS_one {s : DS} (h : s.fuse = 1) : actS s = goneS { s with off := s.off, acts := s.acts + 1, fuse := 0, keep := s.keep } s.keep := by rw [actS, if_neg (by omega), if_pos h]
theorem actS_more {s : DS} (h0 : ¬ s.fuse = 0) (h1 : ¬ s.fuse = 1) : actS s = { s with off := s.off, acts := s.acts + 1, fuse := s.fuse - 1, keep := s.keep } := by rw [actS, if_neg h0, if_neg h1]
theorem actS_keep {s : DS} (h : failS s = false) : (actS s).pend = s.pend ∧ (actS s).safe = s.safe ∧ (actS s).off = s.off := by
  have h1 : ¬ s.fuse = 1 := by simpa [failS] using h
  by_cases h0 : s.fuse = 0
  · rw [actS_zero h0]; exact ⟨rfl, rfl, rfl⟩
  · rw [actS_more h0 h1]; exact ⟨rfl, rfl, rfl⟩
end Go.Proofs.Ythnagnjcbgcnfaa
