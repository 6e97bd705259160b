/-
  The developers' disk, as plain mathematics: sectors as cells, what is there now, the writes that are kept, the sectors laid back.
-/
import Derived.Test.YthnagnjcbgcnfaaDiskFit
import Derived.Test.YthnagnjcbgcnfaaFlat
namespace Go.Proofs.Ythnagnjcbgcnfaa
open Go.RowKit

/-- Bytes as cells. -/
def bv (x : List UInt8) : List Value := nums .u8 (byteNs x)
theorem bv_len (x : List UInt8) : (bv x).length = x.length := by rw [bv, nums_len, byteNs_len]
theorem bv_one (x : List UInt8) : ∀ u ∈ bv x, u.oneCell' = true := nums_one _ _
theorem bv_get {x : List UInt8} {j : Nat} (hj : j < x.length) : (bv x)[j]? = some (.int .u8 (x[j].toNat : Int)) := by
  rw [bv, nums, byteNs, List.getElem?_map, List.getElem?_map, List.getElem?_eq_getElem hj]
  rfl
def secs (l : List (List UInt8)) : List (List Value) := l.map bv
theorem secs_length (l : List (List UInt8)) : (secs l).length = l.length := by simp [secs]
theorem secs_wide {l : List (List UInt8)} (h : ∀ x ∈ l, x.length = 128) : Wide 128 (secs l) := fun z hz => by
  obtain ⟨x, hx, rfl⟩ := List.mem_map.1 hz
  rw [bv_len]
  exact h x hx
theorem secs_set (l : List (List UInt8)) (i : Nat) (x : List UInt8) : secs (l.set i x) = (secs l).set i (bv x) := by rw [secs, secs, List.map_set]
theorem secs_getD {l : List (List UInt8)} {i : Nat} (hi : i < l.length) : (secs l).getD i [] = bv (l.getD i []) := by
  rw [secs, List.getD_eq_getElem?_getD, List.getElem?_map, List.getElem?_eq_getElem hi, List.getD_eq_getElem?_getD, List.getElem?_eq_getElem hi]
  rfl
theorem secs_flat {l : List (List UInt8)} (h : ∀ x ∈ l, x.length = 128) : (secs l).flatten.length = 128 * l.length := by rw [flat_len (secs_wide h), secs_length, Nat.mul_comm]
/-- A write's cells. -/
def wcells (p : Nat × List UInt8) : List Value := .int .i64 (p.1 : Int) :: bv p.2
def wrows (p : List (Nat × List UInt8)) : List (List Value) := p.map wcells
theorem wcells_len {p : Nat × List UInt8} (h : p.2.length = 128) : (wcells p).length = 129 := by rw [wcells, List.length_cons, bv_len, h]
theorem wcells_one (p : Nat × List UInt8) : ∀ u ∈ wcells p, u.oneCell' = true := fun u hu => by
  rcases List.mem_cons.1 hu with rfl | hu
  · rfl
  · exact bv_one _ u hu
theorem wrows_len (p : List (Nat × List UInt8)) : (wrows p).length = p.length := by simp [wrows]
theorem wrows_wide {p : List (Nat × List UInt8)} (h : ∀ q ∈ p, q.2.length = 128) : Wide 129 (wrows p) := fun z hz => by
  obtain ⟨x, hx, rfl⟩ := List.mem_map.1 hz
  exact wcells_len (h x hx)
theorem wrows_snoc (p : List (Nat × List UInt8)) (q : Nat × List UInt8) : wrows (p ++ [q]) = wrows p ++ [wcells q] := by simp [wrows]
theorem wrows_getD {p : List (Nat × List UInt8)} {i : Nat} (hi : i < p.length) : (wrows p).getD i [] = wcells p[i] := by
  rw [wrows, List.getD_eq_getElem?_getD, List.getElem?_map, List.getElem?_eq_getElem hi]
  rfl
/-- What is there now. -/
def nowS (s : DS) : List (List UInt8) := applyL s.pend s.safe
theorem nowS_len (s : DS) : (nowS s).length = s.safe.length := applyL_len _ _
theorem applyL_getD : ∀ (p : List (Nat × List UInt8)) (l : List (List UInt8)) (i : Nat), i < l.length → (applyL p l).getD i [] = lastOf i p (l.getD i [])
  | [], _, _, _ => rfl
  | p :: r, l, i, h => by
    rw [applyL, lastOf, applyL_getD r _ i (by rw [List.length_set]; exact h)]
    congr 1
    by_cases hp : p.1 = i
    · subst hp
      rw [if_pos rfl, List.getD_eq_getElem?_getD, List.getElem?_set_self h]
      rfl
    · rw [if_neg hp, List.getD_eq_getElem?_getD, List.getElem?_set_ne hp, List.getD_eq_getElem?_getD]
theorem nowS_getD {s : DS} {i : Nat} (h : i < s.safe.length) : (nowS s).getD i [] = readS s i := applyL_getD _ _ _ h
theorem DS.Ok.now {s : DS} (h : s.Ok) : ∀ x ∈ nowS s, x.length = 128 := applyL_ok _ _ (fun q hq => (h.pend q hq).2) h.safe
theorem applyL_snoc (p : List (Nat × List UInt8)) (q : Nat × List UInt8) (l : List (List UInt8)) : applyL (p ++ [q]) l = (applyL p l).set q.1 q.2 := by
  induction p generalizing l with
  | nil => rfl
  | cons x p ih => rw [List.cons_append, applyL, applyL, ih]
theorem nowS_put (s : DS) (a : Nat) (b : List UInt8) : nowS (putS s a b) = (nowS s).set a (padN b) := applyL_snoc _ _ _
/-- Those that are kept applied; the first has number i. -/
def keptF (K : Nat → Bool) : Nat → List (Nat × List UInt8) → List (List UInt8) → List (List UInt8)
  | _, [], l => l
  | i, p :: r, l => keptF K (i + 1) r (if K i = true then l.set p.1 p.2 else l)
theorem keptF_keep (keep : Nat) : ∀ (p : List (Nat × List UInt8)) (i : Nat) (l : List (List UInt8)), keptF (fun i => decide (keep / 2 ^ (i % 64) % 2 = 1)) i p l = keptL keep i p l
  | [], _, _ => rfl
  | p :: r, i, l => by
    rw [keptF, keptL, keptF_keep keep r]
    simp only [decide_eq_true_eq]
theorem keptF_all : ∀ (p : List (Nat × List UInt8)) (i : Nat) (l : List (List UInt8)), keptF (fun _ => true) i p l = applyL p l
  | [], _, _ => rfl
  | p :: r, i, l => by rw [keptF, applyL, keptF_all r, if_pos rfl]
theorem keptF_len (K : Nat → Bool) : ∀ (p : List (Nat × List UInt8)) (i : Nat) (l : List (List UInt8)), (keptF K i p l).length = l.length
  | [], _, _ => rfl
  | p :: r, i, l => by
    rw [keptF, keptF_len K r]
    split <;> simp
theorem keptF_ok (K : Nat → Bool) : ∀ (p : List (Nat × List UInt8)) (i : Nat) (l : List (List UInt8)), (∀ q ∈ p, q.2.length = 128) → (∀ x ∈ l, x.length = 128) → ∀ x ∈ keptF K i p l, x.length = 128
  | [], _, _, _, h => h
  | p :: r, i, l, hp, h => keptF_ok K r (i + 1) _ (fun q hq => hp q (by simp [hq])) (by
      split
      · exact set_ok h _ (hp p (by simp))
      · exact h)
theorem keptF_take (K : Nat → Bool) : ∀ (p : List (Nat × List UInt8)) (l : List (List UInt8)) (i k : Nat) (h : k < p.length), keptF K i (p.take (k + 1)) l = if K (i + k) = true then (keptF K i (p.take k) l).set (p[k]).1 (p[k]).2 else keptF K i (p.take k) l
  | q :: r, l, i, 0, _ => by simp [keptF]
  | q :: r, l, i, k + 1, h => by
    simp only [List.length_cons] at h
    rw [List.take_succ_cons, List.take_succ_cons, keptF, keptF, keptF_take K r _ (i + 1) k (by omega)]
    rw [show i + 1 + k = i + (k + 1) by omega]
    simp
/-- Sectors laid back, as those of another row are. -/
def fixL (S : List (List UInt8)) : List (Nat × List UInt8) → List (List UInt8) → List (List UInt8)
  | [], N => N
  | p :: r, N => fixL S r (N.set p.1 (S.getD p.1 []))
theorem fixL_len (S : List (List UInt8)) : ∀ (p : List (Nat × List UInt8)) (N : List (List UInt8)), (fixL S p N).length = N.length
  | [], _ => rfl
  | p :: r, N => by rw [fixL, fixL_len S r, List.length_set]
theorem fixL_ok {S : List (List UInt8)} (hS : ∀ x ∈ S, x.length = 128) : ∀ (p : List (Nat × List UInt8)) (N : List (List UInt8)), (∀ q ∈ p, q.1 < S.length) → (∀ x ∈ N, x.length = 128) → ∀ x ∈ fixL S p N, x.length = 128
  | [], _, _, h => h
  | p :: r, N, hp, h => fixL_ok hS r _ (fun q hq => hp q (by simp [hq])) (set_ok h _ (by
      rw [List.getD_eq_getElem?_getD, List.getElem?_eq_getElem (hp p (by simp))]
      exact hS _ (List.getElem_mem _)))
theorem fixL_take (S : List (List UInt8)) : ∀ (p : List (Nat × List UInt8)) (N : List (List UInt8)) (k : Nat) (h : k < p.length), fixL S (p.take (k + 1)) N = (fixL S (p.take k) N).set (p[k]).1 (S.getD (p[k]).1 [])
  | q :: r, N, 0, _ => by simp [fixL]
  | q :: r, N, k + 1, h => by
    simp only [List.length_cons] at h
    rw [List.take_succ_cons, List.take_succ_cons, fixL, fixL, fixL_take S r _ k (by omega)]
    simp
theorem fixL_get (S : List (List UInt8)) : ∀ (p : List (Nat × List UInt8)) (N : List (List UInt8)) (i : Nat), S.length = N.length → (fixL S p N)[i]? = if i ∈ p.map (·.1) then S[i]? else N[i]?
  | [], N, i, _ => by simp [fixL]
  | p :: r, N, i, h => by
    rw [fixL, fixL_get S r _ i (by rw [List.length_set]; exact h)]
    by_cases h1 : i ∈ r.map (·.1)
    · rw [if_pos h1, if_pos (by simp only [List.map_cons, List.mem_cons]; exact .inr h1)]
    · rw [if_neg h1]
      by_cases h2 : p.1 = i
      · subst h2
        rw [if_pos (by simp)]
        by_cases h3 : p.1 < N.length
        · rw [List.getElem?_set_self h3, List.getD_eq_getElem?_getD, List.getElem?_eq_getElem (by omega)]
          rfl
        · rw [List.getElem?_eq_none (by rw [List.length_set]; omega), List.getElem?_eq_none (by omega)]
      · rw [if_neg (by simp only [List.map_cons, List.mem_cons]; exact fun e => e.elim (fun e => h2 e.symm) h1), List.getElem?_set_ne h2]
theorem applyL_other : ∀ (p : List (Nat × List UInt8)) (l : List (List UInt8)) (i : Nat), i ∉ p.map (·.1) → (applyL p l)[i]? = l[i]?
  | [], _, _, _ => rfl
  | p :: r, l, i, h => by
    simp only [List.map_cons, List.mem_cons, not_or] at h
    rw [applyL, applyL_other r _ i h.2, List.getElem?_set_ne (Ne.symm h.1)]
theorem keptF_other (K : Nat → Bool) : ∀ (p : List (Nat × List UInt8)) (n : Nat) (l : List (List UInt8)) (i : Nat), i ∉ p.map (·.1) → (keptF K n p l)[i]? = l[i]?
  | [], _, _, _, _ => rfl
  | p :: r, n, l, i, h => by
    simp only [List.map_cons, List.mem_cons, not_or] at h
    rw [keptF, keptF_other K r _ _ i h.2]
    split
    · rw [List.getElem?_set_ne (Ne.symm h.1)]
    · rfl
/-- Behind a settling the two rows are the same. -/
theorem fix_all (K : Nat → Bool) (p : List (Nat × List UInt8)) (l : List (List UInt8)) : fixL (keptF K 0 p l) p (applyL p l) = keptF K 0 p l := by
  refine List.ext_getElem? fun i => ?_
  rw [fixL_get _ _ _ _ (by rw [keptF_len, applyL_len])]
  by_cases h : i ∈ p.map (·.1)
  · rw [if_pos h]
  · rw [if_neg h, applyL_other _ _ _ h, keptF_other _ _ _ _ _ h]
end Go.Proofs.Ythnagnjcbgcnfaa
