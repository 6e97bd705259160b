/-
  What a sector may be behind a failure: what it was when it was synced last, or what a write since then made of it. Plain mathematics.
-/
import Derived.Test.YtmkelboncapkpaaDiskFit
namespace Go.Proofs.Ytmkelboncapkpaa

/-- What sector i may be. -/
def mayI (s : DS) (i : Nat) : List (List UInt8) := s.safe.getD i [] :: (s.pend.filter fun p => p.1 == i).map (·.2)
/-- Power is there, and nothing is armed. -/
def Live (s : DS) : Prop := s.off = false ∧ s.fuse = 0
theorem live_new (n : Int) : Live (newS n) := ⟨rfl, rfl⟩
theorem live_act {s : DS} (h : Live s) : actS s = { s with acts := s.acts + 1 } := actS_zero h.2
theorem live_fail {s : DS} (h : Live s) : failS s = false := by simp [failS, h.2]
theorem live_write {s : DS} (h : Live s) (at' : Int) (b : List UInt8) : Live (writeS s at' b) := by
  unfold writeS
  split
  · rw [live_act (s := putS s at'.toNat b) h]
    exact h
  · exact h
theorem live_sync_eq {s : DS} (h : Live s) : syncS s = { s with acts := s.acts + 1, safe := applyL s.pend s.safe, pend := [] } := by
  rw [syncS, if_neg (by rw [h.1]; decide), if_neg (by rw [live_fail h]; decide), live_act h]
theorem live_sync {s : DS} (h : Live s) : Live (syncS s) := by
  rw [live_sync_eq h]
  exact h
theorem live_syncE {s : DS} (h : Live s) : syncE s = 0 := by
  rw [syncE, if_neg (by rw [h.1, live_fail h]; decide)]
/-- A write that went. -/
theorem live_wrote {s : DS} (h : Live s) {at' : Int} {b : List UInt8} (he : writeE s at' b = 0) : 0 ≤ at' ∧ at'.toNat < s.safe.length ∧ writeS s at' b = { s with pend := s.pend ++ [(at'.toNat, padN b)], acts := s.acts + 1 } := by
  unfold writeE at he
  by_cases hw : whyS s at' = 0
  · rw [if_pos hw] at he
    by_cases hb : 128 < b.length
    · rw [if_pos hb] at he; cases he
    · obtain ⟨h1, h2, _⟩ := whyS_zero hw
      refine ⟨h1, h2, ?_⟩
      rw [writeS, if_pos ⟨hw, by omega⟩, live_act (s := putS s at'.toNat b) h]
      rfl
  · rw [if_neg hw] at he
    exact absurd he hw
theorem live_stays {s : DS} {at' : Int} {b : List UInt8} (h : Live s) (he : ¬ writeE s at' b = 0) : writeS s at' b = s := by
  unfold writeE at he
  by_cases hw : whyS s at' = 0
  · rw [if_pos hw] at he
    by_cases hb : 128 < b.length
    · rw [writeS, if_neg (fun e => by omega)]
    · rw [if_neg hb, live_fail h] at he
      simp at he
  · rw [writeS, if_neg (fun e => hw e.1)]
theorem lastOf_snoc (at' : Nat) (d : List UInt8) : ∀ (p : List (Nat × List UInt8)) (x : List UInt8), lastOf at' (p ++ [(at', d)]) x = d
  | [], x => by simp [lastOf]
  | q :: r, x => by rw [List.cons_append, lastOf, lastOf_snoc at' d r]
theorem wrote_read {s : DS} (h : Live s) {at' : Int} {b : List UInt8} (he : writeE s at' b = 0) : readB (writeS s at' b) at' = padN b := by
  obtain ⟨h1, h2, h3⟩ := live_wrote h he
  have hw : whyS (writeS s at' b) at' = 0 := by
    rw [h3, whyS, if_neg (by simp only; omega)]
    simp only
    rw [if_neg (by rw [h.1]; decide)]
  rw [readB, if_pos hw, h3, readS]
  exact lastOf_snoc _ _ _ _
theorem wrote_may {s : DS} (h : Live s) {at' : Int} {b : List UInt8} (he : writeE s at' b = 0) (i : Nat) : mayI (writeS s at' b) i = if i = at'.toNat then mayI s i ++ [padN b] else mayI s i := by
  obtain ⟨h1, h2, h3⟩ := live_wrote h he
  rw [h3, mayI]
  simp only [List.filter_append, List.map_append]
  by_cases hi : i = at'.toNat
  · subst hi
    rw [if_pos rfl]
    simp [mayI]
  · rw [if_neg hi]
    have : (at'.toNat == i) = false := by simp; omega
    simp [mayI, this]
theorem lastOf_filter (i : Nat) : ∀ (p : List (Nat × List UInt8)) (x : List UInt8), [lastOf i p x] = (x :: (p.filter fun q => q.1 == i).map (·.2)).drop ((p.filter fun q => q.1 == i).map (·.2)).length
  | [], x => by simp [lastOf]
  | q :: r, x => by
    rw [lastOf, lastOf_filter i r]
    by_cases hq : q.1 = i
    · rw [if_pos hq]
      have : (q.1 == i) = true := by simpa using hq
      rw [List.filter_cons, if_pos this, List.map_cons, List.length_cons, List.drop_succ_cons]
    · rw [if_neg hq]
      have : ¬ (q.1 == i) = true := by simpa using hq
      rw [List.filter_cons, if_neg this]
theorem applyL_get (i : Nat) : ∀ (p : List (Nat × List UInt8)) (l : List (List UInt8)), i < l.length → (applyL p l).getD i [] = lastOf i p (l.getD i [])
  | [], _, _ => rfl
  | q :: r, l, hi => by
    rw [applyL, applyL_get i r _ (by rw [List.length_set]; exact hi), lastOf]
    congr 1
    by_cases hq : q.1 = i
    · subst hq
      rw [if_pos rfl, List.getD_eq_getElem?_getD, List.getElem?_set_self hi]
      rfl
    · rw [if_neg hq, List.getD_eq_getElem?_getD, List.getElem?_set_ne hq, ← List.getD_eq_getElem?_getD]
theorem synced_may {s : DS} (h : Live s) {i : Nat} (hi : i < s.safe.length) : mayI (syncS s) i = (mayI s i).drop ((mayI s i).length - 1) := by
  rw [live_sync_eq h, mayI]
  simp only [List.filter_nil, List.map_nil]
  rw [applyL_get i _ _ hi, lastOf_filter i s.pend (s.safe.getD i [])]
  rw [mayI, List.length_cons, Nat.add_sub_cancel]
theorem keptL_get (keep i : Nat) : ∀ (p : List (Nat × List UInt8)) (k : Nat) (l : List (List UInt8)), i < l.length → (keptL keep k p l).getD i [] ∈ l.getD i [] :: (p.filter fun q => q.1 == i).map (·.2)
  | [], _, l, _ => by rw [keptL]; exact List.mem_cons_self ..
  | q :: r, k, l, hi => by
    rw [keptL]
    have ih := keptL_get keep i r (k + 1) (if keep / 2 ^ (k % 64) % 2 = 1 then l.set q.1 q.2 else l) (by split <;> simpa using hi)
    have hd : (if keep / 2 ^ (k % 64) % 2 = 1 then l.set q.1 q.2 else l).getD i [] = l.getD i [] ∨ (q.1 = i ∧ (if keep / 2 ^ (k % 64) % 2 = 1 then l.set q.1 q.2 else l).getD i [] = q.2) := by
      split
      · by_cases hq : q.1 = i
        · right
          refine ⟨hq, ?_⟩
          subst hq
          rw [List.getD_eq_getElem?_getD, List.getElem?_set_self hi]
          rfl
        · left
          rw [List.getD_eq_getElem?_getD, List.getElem?_set_ne hq, ← List.getD_eq_getElem?_getD]
      · exact .inl rfl
    rcases List.mem_cons.1 ih with e | e
    · rw [e]
      rcases hd with hd | ⟨hq, hd⟩
      · rw [hd]; exact List.mem_cons_self ..
      · rw [hd]
        have : (q.1 == i) = true := by simpa using hq
        rw [List.filter_cons, if_pos this, List.map_cons]
        exact List.mem_cons_of_mem _ (List.mem_cons_self ..)
    · rw [List.filter_cons]
      split
      · exact List.mem_cons_of_mem _ (List.mem_cons_of_mem _ e)
      · exact List.mem_cons_of_mem _ e
theorem gone_may {s : DS} (h : Live s) (keep : Nat) {i : Nat} (hi : i < s.safe.length) : readB (onS (goneS s keep)) i ∈ mayI s i ∧ whyS (onS (goneS s keep)) i = 0 := by
  have hw : whyS (onS (goneS s keep)) i = 0 := by
    rw [whyS, if_neg (by show ¬ ((i : Int) < 0 ∨ (((goneS s keep).safe.length : Nat) : Int) ≤ i); rw [goneS_len]; omega)]
    rfl
  refine ⟨?_, hw⟩
  rw [readB, if_pos hw, readS]
  have hp : (onS (goneS s keep)).pend = [] := by rw [goneS, if_neg (by rw [h.1]; decide)]; rfl
  have hs : (onS (goneS s keep)).safe = keptL keep 0 s.pend s.safe := by rw [goneS, if_neg (by rw [h.1]; decide)]; rfl
  rw [hp, hs]
  exact keptL_get keep i s.pend 0 s.safe hi
theorem gone_waits {s : DS} (h : Live s) (keep : Nat) : (onS (goneS s keep)).pend = [] := by rw [goneS, if_neg (by rw [h.1]; decide)]; rfl
/-- A call of the script, as this law takes it: writes and syncs. -/
def kindS (s : DS) (c : CallN) : DS := if c.kind = 0 then writeS s c.at' c.b else if c.kind = 2 then syncS s else s
theorem kindS_len (s : DS) (c : CallN) : (kindS s c).safe.length = s.safe.length := by
  unfold kindS
  split
  · exact writeS_len _ _ _
  · split
    · exact syncS_len _
    · rfl
theorem live_kind {s : DS} (h : Live s) (c : CallN) : Live (kindS s c) := by
  unfold kindS
  split
  · exact live_write h _ _
  · split
    · exact live_sync h
    · exact h
theorem Fit.kind {s : DS} {n : Nat} (h : Fit s n) (c : CallN) : Fit (kindS s c) (n + 1) := by
  unfold kindS
  split
  · exact h.write _ _
  · split
    · exact h.sync
    · exact h.mono (Nat.le_succ n)
theorem may_len (s : DS) (i : Nat) : 0 < (mayI s i).length := by simp [mayI]
theorem may_long (s : DS) (i : Nat) : (mayI s i).length ≤ s.pend.length + 1 := by
  rw [mayI, List.length_cons, List.length_map]
  have := List.length_filter_le (fun p : Nat × List UInt8 => p.1 == i) s.pend
  omega
theorem new_may (n : Int) (i : Nat) (hi : i < (newS n).safe.length) : mayI (newS n) i = [readB (newS n) i] := by
  have hw : whyS (newS n) i = 0 := by
    rw [whyS, if_neg (by omega)]
    rfl
  rw [readB, if_pos hw]
  rfl
end Go.Proofs.Ytmkelboncapkpaa
