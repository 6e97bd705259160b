/-
  Plain facts that the laws of layer 1 lean on.
-/
import Derived.Test.YtkcmadehoafckaaAlive
import Derived.Test.YtkcmadehoafckaaSplit
namespace Go.Proofs.Ytkcmadehoafckaa
open Go.RowKit

theorem textsB_total {l : List (List UInt8)} (h : ∀ t ∈ l, t.length < 9223372036854775808) : (textsB l).length ≤ 9 * l.length + total l := by
  induction l with
  | nil => simp [textsB, total]
  | cons t l ih =>
    have h1 := ih (fun t ht => h t (by simp [ht]))
    have h2 := numB_length_9 (h t (by simp))
    rw [textsB_cons, List.length_append, textB_length]
    simp only [total, List.map_cons, List.sum_cons, List.length_cons] at h1 ⊢
    omega

theorem le_total {l : List (List UInt8)} {t : List UInt8} (h : t ∈ l) : t.length ≤ total l := by
  induction l with
  | nil => cases h
  | cons x l ih =>
    simp only [total, List.map_cons, List.sum_cons]
    rcases List.mem_cons.1 h with rfl | h
    · omega
    · have := ih h; simp only [total] at this; omega

theorem greatB_false {l : List (List UInt8)} (h : greatB l = false) : l.length ≤ 200 ∧ total l ≤ 8192 ∧ (∀ t ∈ l, t.length ≤ 8192) ∧ (listB l).length ≤ 10001 := by
  unfold greatB at h
  rw [decide_eq_false_iff_not] at h
  have h1 : l.length ≤ 200 := by omega
  have h2 : total l ≤ 8192 := by omega
  have h3 : ∀ t ∈ l, t.length ≤ 8192 := fun t ht => by have := le_total ht; omega
  refine ⟨h1, h2, h3, ?_⟩
  have h4 := textsB_total (l := l) (fun t ht => by have := h3 t ht; omega)
  have h5 := numB_length_9 (n := l.length) (by omega)
  rw [listB_length]
  omega

/-- A list whose bytes another's begin with is that one. -/
theorem listB_prefix {a b : List (List UInt8)} (ha : greatB a = false) (hb : greatB b = false) {r : List UInt8} (h : listB b = listB a ++ r) : a = b := by
  obtain ⟨a1, _, a3, _⟩ := greatB_false ha
  obtain ⟨b1, _, b3, _⟩ := greatB_false hb
  have e1 := takeList_listB (l := a) (by omega) (fun t ht => by have := a3 t ht; omega) r
  have e2 := takeList_listB (l := b) (by omega) (fun t ht => by have := b3 t ht; omega) []
  rw [List.append_nil, h, e1] at e2
  simp only [Option.some.injEq, Prod.mk.injEq] at e2
  exact e2.1

theorem listB_ne {a b : List (List UInt8)} (ha : greatB a = false) (hb : greatB b = false) (h : ¬ a = b) : (listB a == listB b) = false := by
  rw [beq_eq_false_iff_ne]
  intro e
  exact h (listB_prefix ha hb (r := []) (by rw [List.append_nil]; exact e.symm))

theorem listB_take_ne {a b : List (List UInt8)} (ha : greatB a = false) (hb : greatB b = false) (h : ¬ a = b) : ((listB b).take (listB a).length == listB a) = false := by
  rw [beq_eq_false_iff_ne]
  intro e
  apply h
  refine listB_prefix ha hb (r := (listB b).drop (listB a).length) ?_
  have := List.take_append_drop (listB a).length (listB b)
  rw [e] at this
  exact this.symm
end Go.Proofs.Ytkcmadehoafckaa
