/-
  What the developers' readers reckon, as plain mathematics: split, take the parts as they are, and ask whether it is good and has these bytes.
-/
import Derived.Test.YthgfpojfnhkckaaOpRdO
import Derived.Test.YthgfpojfnhkckaaRnum
namespace Go.Proofs.Ythgfpojfnhkckaa
open Go.RowKit

def draftT (d : DraftN) : ByteArray := ⟨(draftB d).toArray⟩
/-- Sizes that the laws let through. -/
structure DraftN.Fit (d : DraftN) : Prop where
  ref : IdOk d.ref
  low : -9223372036854775808 ≤ d.kind
  high : d.kind ≤ 9223372036854775807
  key : d.key.length ≤ 512
  val : d.val.length ≤ 512
structure OpN.Fit (o : OpN) : Prop where
  d : o.d.Fit
  alow : -9223372036854775808 ≤ o.author
  ahigh : o.author ≤ 9223372036854775807
  dlow : -9223372036854775808 ≤ o.depth
  dhigh : o.depth ≤ 9223372036854775807
  preds : ∀ p ∈ o.preds, IdOk p
  many : o.preds.length ≤ 70
theorem OpN.Fit.ok {o : OpN} (h : o.Fit) : o.Ok := ⟨h.d.ref, h.preds⟩
/-- What a reader's number of a text is. -/
def openN (k : List UInt8) : Nat := (rdNum k).1
theorem openN_lt (k : List UInt8) : openN k < 9223372036854775808 := by
  unfold openN rdNum
  cases h : takeNum k with
  | none => decide
  | some p => obtain ⟨n, r⟩ := p; exact takeNum_lt h
theorem openN_all {k : List UInt8} {n : Nat} (h : allNum k = some n) : openN k = n := by
  unfold allNum at h
  split at h
  · rename_i m hm
    simp only [Option.some.injEq] at h
    rw [openN, rdNum, hm, ← h]
  · cases h
theorem all_openN {k : List UInt8} (h : numB (openN k) = k) : allNum k = some (openN k) := by
  have := allNum_numB (openN_lt k)
  rwa [h] at this
/-- A text laid over thirty-two zeros. -/
def refP (r : List UInt8) : List Nat := byteNs (r.take 32) ++ (List.replicate 32 0).drop r.length
theorem refP_ok (r : List UInt8) : IdOk (refP r) := by
  refine ⟨?_, fun x hx => ?_⟩
  · rw [refP, List.length_append, byteNs_len, List.length_take, List.length_drop, List.length_replicate]
    omega
  · rcases List.mem_append.1 hx with hx | hx
    · exact byteNs_lt _ x hx
    · rw [(List.mem_replicate.1 (List.mem_of_mem_drop hx)).2]
      decide
theorem refP_full {r : List UInt8} (h : r.length = 32) : refP r = byteNs r := by
  rw [refP, List.take_of_length_le (by omega), List.drop_of_length_le (by rw [List.length_replicate]; omega), List.append_nil]
def devD (k key val r : List UInt8) : DraftN := ⟨openN k, key, val, refP r⟩
theorem numB_len_lt {n : Nat} (h : n < 9223372036854775808) : (numB n).length < 9223372036854775808 := by
  have := numB_len9 h
  omega
theorem readD_dev {s k key val r : List UInt8} (hs : splitB s = some [k, key, val, r]) :
    readD s = if GoodD (devD k key val r) ∧ draftB (devD k key val r) = s then some (devD k key val r) else none := by
  have hp := split_parts hs
  by_cases h : GoodD (devD k key val r) ∧ draftB (devD k key val r) = s
  · rw [if_pos h]
    have h1 := splitB_some hs
    have h2 : listB [numB (openN k), key, val, txt (refP r)] = listB [k, key, val, r] := by
      rw [h1]
      exact h.2
    have l1 := hp k (by simp)
    have l2 := hp key (by simp)
    have l3 := hp val (by simp)
    have l4 := hp r (by simp)
    have l5 := numB_len9 (openN_lt k)
    have l6 := (refP_ok r).1
    have h3 := listB_inj (by simp) (by simp) (fun t ht => by simp only [List.mem_cons, List.not_mem_nil, or_false] at ht; rcases ht with rfl | rfl | rfl | rfl <;> first | omega | (rw [txt_len]; omega)) (fun t ht => by simp only [List.mem_cons, List.not_mem_nil, or_false] at ht; rcases ht with rfl | rfl | rfl | rfl <;> omega) h2
    simp only [List.cons.injEq, and_true, true_and] at h3
    have hr : r.length = 32 := by rw [← h3.2, txt_len, l6]
    have e : (⟨(openN k : Int), key, val, byteNs r⟩ : DraftN) = devD k key val r := by rw [devD, refP_full hr]
    rw [readD_at hs hr (all_openN h3.1), e, if_pos h.1]
  · rw [if_neg h]
    cases hd : readD s with
    | none => rfl
    | some d =>
      exfalso
      have h1 := readD_some hd
      have e : d = devD k key val r := by
        unfold readD at hd
        rw [hs] at hd
        simp only at hd
        split at hd
        · rename_i hr
          split at hd
          · rename_i n hn
            split at hd
            · simp only [Option.some.injEq] at hd
              rw [← hd, devD, openN_all hn, refP_full hr]
            · cases hd
          · cases hd
        · cases hd
      rw [e] at h1
      exact h ⟨h1.2.1, h1.1⟩
def devO (d : DraftN) (a b p : List UInt8) : OpN := ⟨d, openN a, openN b, idsOf (p.length / 32) p⟩
theorem idsOf_cut : ∀ (k : Nat) (s : List UInt8), 32 * k ≤ s.length → idsOf k s = idsOf k (s.take (32 * k))
  | 0, _, _ => rfl
  | k + 1, s, h => by
    have ih := idsOf_cut k (s.drop 32) (by rw [List.length_drop]; omega)
    rw [idsOf, idsOf, ih, List.take_take, Nat.min_eq_left (by omega), List.drop_take, show 32 * (k + 1) - 32 = 32 * k by omega]
theorem idsOf_ok' (k : Nat) (s : List UInt8) (h : 32 * k ≤ s.length) : ∀ p ∈ idsOf k s, IdOk p := by
  rw [idsOf_cut k s h]
  exact idsOf_ok k _ (by rw [List.length_take]; omega)
theorem predsB_cut (k : Nat) (s : List UInt8) (h : 32 * k ≤ s.length) : predsB (idsOf k s) = s.take (32 * k) := by
  rw [idsOf_cut k s h]
  exact predsB_idsOf k _ (by rw [List.length_take]; omega)
theorem devO_ok {d : DraftN} (hd : IdOk d.ref) (a b p : List UInt8) : (devO d a b p).Ok := ⟨hd, idsOf_ok' _ _ (by omega)⟩
theorem readO_none {s a b p t : List UInt8} (hs : splitB s = some [a, b, p, t]) (hd : readD t = none) : readO s = none := readO_parts hs (.inr (.inr hd))
theorem readO_dev {s a b p t : List UInt8} {d : DraftN} (hs : splitB s = some [a, b, p, t]) (hd : readD t = some d) :
    readO s = if GoodO (devO d a b p) ∧ opB (devO d a b p) = s then some (devO d a b p) else none := by
  have hp := split_parts hs
  by_cases h : GoodO (devO d a b p) ∧ opB (devO d a b p) = s
  · rw [if_pos h]
    have h1 := splitB_some hs
    have h2 : listB [numB (openN a), numB (openN b), predsB (idsOf (p.length / 32) p), draftB d] = listB [a, b, p, t] := by
      rw [h1]
      exact h.2
    have l1 := hp a (by simp)
    have l2 := hp b (by simp)
    have l3 := hp p (by simp)
    have l4 := hp t (by simp)
    have l5 := numB_len9 (openN_lt a)
    have l6 := numB_len9 (openN_lt b)
    have l7 := predsB_len (idsOf_ok' (p.length / 32) p (by omega))
    rw [idsOf_len] at l7
    have l8 : (draftB d).length = t.length := by rw [(readD_some hd).1]
    have h3 := listB_inj (by simp) (by simp) (fun t ht => by simp only [List.mem_cons, List.not_mem_nil, or_false] at ht; rcases ht with rfl | rfl | rfl | rfl <;> omega) (fun t ht => by simp only [List.mem_cons, List.not_mem_nil, or_false] at ht; rcases ht with rfl | rfl | rfl | rfl <;> omega) h2
    simp only [List.cons.injEq, and_true] at h3
    have hr : p.length % 32 = 0 := by
      have := congrArg List.length h3.2.2.1
      omega
    have e : (⟨d, openN a, openN b, idsOf (p.length / 32) p⟩ : OpN) = devO d a b p := rfl
    rw [readO_at hs hr (all_openN h3.1) (all_openN h3.2.1) hd, e, if_pos h.1]
  · rw [if_neg h]
    cases ho : readO s with
    | none => rfl
    | some o =>
      exfalso
      have h1 := readO_some ho
      have e : o = devO d a b p := by
        unfold readO at ho
        rw [hs] at ho
        simp only [hd] at ho
        split at ho
        · split at ho
          · rename_i x y d' hx hy hd'
            simp only [Option.some.injEq] at hd'
            split at ho
            · simp only [Option.some.injEq] at ho
              rw [← ho, devO, openN_all hx, openN_all hy, hd']
            · cases ho
          · cases ho
        · cases ho
      rw [e] at h1
      exact h ⟨h1.2.1, h1.1⟩
/-- What is good, is small. -/
theorem GoodD.fit {d : DraftN} (h : GoodD d) (hr : IdOk d.ref) : d.Fit := by
  obtain ⟨h1, h2, _, h4, h5, _⟩ := h
  exact ⟨hr, by omega, by omega, by omega, by omega⟩
theorem GoodO.fit {o : OpN} (h : GoodO o) (ho : o.Ok) (hl : o.depth ≤ 9223372036854775807) : o.Fit := by
  obtain ⟨_, h2, h3, h4, h5, h6, h7⟩ := h
  refine ⟨h5.fit ho.ref, by omega, by omega, ?_, hl, ho.preds, by omega⟩
  by_cases hp : o.preds = []
  · have := h2 hp; omega
  · have := h3 hp; omega
end Go.Proofs.Ythgfpojfnhkckaa
