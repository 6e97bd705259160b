/-
  Joined: Regions whose order is open: laws; what every layer over digests wants.; The document's numbers of layer 2 as mathematics; rows of numbers; digests as mathematics.; The document's Of: what its walk's loops share.; Blocks of numbers; copying into them.
-/
import Derived.BigRegion
import Derived.Deep.Quiet
import Derived.Deep.RegionWith
import Derived.Great.BuildSlice
import Derived.Laws.CopyOwn
import Derived.Laws.ResultCell
import Derived.Laws.Rows
import Derived.Lib.BufferWrite
import Derived.StillTail
import Derived.StillTailTactics
import Derived.Test.YtpfhlhcnmeodbaaGreatDoorJ01
namespace Go.Proofs.YtpfhlhcnmeodbaaGreatDoor
open Go.RowKit
section
variable {P : Program} {ops : Array Oper} {md : Region.Mode} {C : World → Prop}
def headIn (P : Program) (md : Region.Mode) (ops : Array Oper) (C : World → Prop) (n : Nat) (L : Array Bool → Act → Prop) : Nat → Array Bool → Act → Prop
  | 0, seen, a => L seen a
  | f + 1, seen, a => Region.ready md ops seen ≠ [] ∧ ∀ i, i ∈ Region.ready md ops seen → i < n ∧ qOp P ops C i (headIn P md ops C n L f (seen.setIfInBounds i true)) a
theorem any_of_headIn {n g : Nat} {L : Array Bool → Act → Prop} {Q : Exit → Act → World → Prop} (hL : ∀ seen a w, C w → L seen a → wpAny P md ops Q g seen a w) (f : Nat) :
    ∀ (seen : Array Bool) (a : Act) (w : World), C w → headIn P md ops C n L f seen a → wpAny P md ops Q (f + g) seen a w := by
  induction f with
  | zero => intro seen a w hw h; rw [Nat.zero_add]; exact hL seen a w hw h
  | succ f ih =>
    intro seen a w hw h
    rw [Nat.add_right_comm]
    exact ⟨fun e => (h.1 e).elim, fun i hi => wpOp_of_qOp hw (fun a' w' hw' h' => ih _ a' w' hw' h') (h.2 i hi).2⟩
theorem headIn_first {n i : Nat} {o : Oper} {v : Value} {L : Array Bool → Act → Prop} (ho : ops[i]? = some o) (hns : Region.noSelect ops = true) (hsink : Region.sinkB md ops n = true) (hchain : Region.chainB md ops n = true) (hn : n < ops.size) (hi : i < n)
    (hend : ∀ seen a, L seen a → ∀ j ∈ Region.ready md ops seen, n ≤ j) (f : Nat) :
    ∀ (seen : Array Bool) (a : Act), HeadInv md ops n seen →
      (∀ j p, ops[j]? = some p → j ≠ i → seen.getD j true = false → (∀ e ∈ p.after, Region.binds md e = true → e.on ≠ i) → o.apart ops p = true) →
      i ∈ Region.ready md ops seen → YieldsIn P ops C o v a → headIn P md ops C n L f (seen.setIfInBounds i true) (a.put o.dst v) → headIn P md ops C n L (f + 1) seen a := by
  have hsel := Region.noSelect_spec hns
  induction f with
  | zero =>
    intro seen a inv _ hr hy H
    refine ⟨List.ne_nil_of_mem hr, fun j hj => ?_⟩
    have hjn : j < n := Nat.lt_of_not_le fun h => tail_waits hsink hchain hn inv _ i rfl hi (mem_ready.1 hr).1 j h hj
    refine ⟨hjn, ?_⟩
    by_cases e : j = i
    · subst e
      exact hy.qOp ho H
    · exact absurd (hend _ _ H j (ready_mono hj e)) (by omega)
  | succ f ih =>
    intro seen a inv hfree hr hy H
    refine ⟨List.ne_nil_of_mem hr, fun j hj => ?_⟩
    have hjn : j < n := Nat.lt_of_not_le fun h => tail_waits hsink hchain hn inv _ i rfl hi (mem_ready.1 hr).1 j h hj
    refine ⟨hjn, ?_⟩
    by_cases e : j = i
    · subst e
      exact hy.qOp ho H
    · obtain ⟨hjs, p, hp, hall⟩ := mem_ready.1 hj
      have hno : ∀ x ∈ p.after, Region.binds md x = true → x.on ≠ i := fun x hx hb ex => by
        have h1 := hall x hx hb
        rw [ex, getD_both (mem_ready.1 hr).1] at h1
        cases h1
      refine qOp_mono (fun a' h3 => ?_) (qOp_put hp (hfree j p hp e hjs hno) (fun cs b => hsel i o cs b ho) (fun cs b => hsel j p cs b hp) hy (H.2 j (ready_mono hj e)).2)
      refine ih _ a' (inv.set hj hjn) (fun k q hq hk hs hnk => ?_) (ready_mono hr (Ne.symm e)) h3.1 ?_
      · refine hfree k q hq hk ?_ hnk
        by_cases ek : j = k
        · subst ek; exact hjs
        · rwa [getD_set_ne true ek] at hs
      · rw [Array.setIfInBounds_comm _ _ e]
        exact h3.2
theorem headIn_lex {n g : Nat} {M : Act → Prop} (hns : Region.noSelect ops = true) (hsink : Region.sinkB md ops n = true) (hchain : Region.chainB md ops n = true) (hn : n < ops.size) (l : List Oper) :
    ∀ (k : Nat) (seen : Array Bool) (a : Act), (∀ j, j < l.length → l[j]? = ops[k + j]?) → k + l.length = n → HeadInv md ops n seen → Region.lexHead md ops g l.length k seen = true → wpQuiet P ops C M l a →
    headIn P md ops C n (fun seen' a' => Region.seqB md ops g n seen' = true ∧ M a') l.length seen a := by
  induction l with
  | nil =>
    intro k seen a _ hk _ hB h
    obtain rfl : k = n := hk
    exact ⟨hB, h⟩
  | cons o l ih =>
    intro k seen a hl hk inv hB h
    have ho : ops[k]? = some o := by simpa using (hl 0 (by simp)).symm
    have hlen : (o :: l).length = l.length + 1 := rfl
    rw [hlen] at hk hB
    simp only [Region.lexHead, Bool.and_eq_true] at hB
    have hkr : k ∈ Region.ready md ops seen := by simpa using hB.1.1
    obtain ⟨v, hy, hK⟩ := yieldsIn_of_qOp ho (show qOp P ops C k (wpQuiet P ops C M l) a by unfold qOp; simp only [ho]; exact h)
    refine headIn_first ho hns hsink hchain hn (by omega) (fun seen' a' hL => seqB_ready hL.1) l.length seen a inv (Region.free_spec ho hB.1.2) hkr hy (ih (k + 1) _ _ (fun j hj => ?_) (by omega) (inv.set hkr (by omega)) hB.2 hK)
    have := hl (j + 1) (by simp; omega)
    rw [List.getElem?_cons_succ] at this
    rw [this]
    congr 1
    omega
theorem wp_region_class_tail {id : Nat} {Q : Exit → Act → World → Prop} {a : Act} {w : World} {l : List Oper} (C : World → Prop) (n : Nat) (hm : P.follows .mixedOrders = true) (hB : Region.lexTailB .any l.toArray n = true) (hC : C w.drew)
    (h : wpQuiet P l.toArray C (fun a' => ∀ w', C w' → wpList P l.toArray Q (l.drop n) a' w') (l.take n) a) : (Code.region id l.toArray true).wp P Q a w := by
  simp only [Region.lexTailB, Bool.and_eq_true, decide_eq_true_eq] at hB
  obtain ⟨⟨⟨⟨hns, hn⟩, hsink⟩, hchain⟩, hlex⟩ := hB
  have hsz : l.toArray.size = l.length := by simp
  have ht : (l.take n).length = n := by rw [List.length_take]; omega
  have hd : (l.drop n).length = l.toArray.size - n := by rw [List.length_drop, hsz]
  have inv : HeadInv .any l.toArray n (Array.replicate l.toArray.size false) :=
    ⟨Array.size_replicate, fun j p _ hs => (by rw [getD_replicate_false] at hs; cases hs), fun t _ ht' => getD_in (by rw [Array.size_replicate]; exact ht') (getD_replicate_false _ _)⟩
  have H := headIn_lex (md := .any) (g := l.toArray.size - n) hns hsink hchain hn (l.take n) 0 _ a (fun j hj => by
    rw [ht] at hj
    simp [hj]) (by omega) inv (by rw [ht]; exact hlex) h
  have A := any_of_headIn (Q := Q) (g := l.toArray.size - n) (fun seen a' w' hw' hL => by
    have := wpAny_of_seq (md := .any) (Q' := Q) (l.drop n) n seen a' w' (fun j => by simp [List.getElem?_drop]) (by rw [hd]; exact hL.1) (hL.2 w' hw')
    rwa [hd] at this) _ _ a w.drew hC H
  rw [ht, show n + (l.toArray.size - n) = l.toArray.size by omega] at A
  exact wp_region_any hm A
end
end Go.Proofs.YtpfhlhcnmeodbaaGreatDoor
namespace Go.Proofs.YtpfhlhcnmeodbaaGreatDoor
open Go.RowKit
section
variable {P : Program} {ops : Array Oper} {md : Region.Mode}
def left (seen : Array Bool) (n : Nat) : Nat := (List.range n).countP fun i => !seen.getD i false
theorem left_zero {seen : Array Bool} {n : Nat} (h : left seen n = 0) (i : Nat) (hi : i < n) : seen.getD i false = true := by
  have := List.countP_eq_zero.1 h i (List.mem_range.2 hi)
  simpa using this
theorem left_set {seen : Array Bool} {i : Nat} (hs : i < seen.size) (hu : seen.getD i false = false) : ∀ n, i < n → left (seen.setIfInBounds i true) n + 1 = left seen n := by
  intro n
  induction n with
  | zero => intro h; omega
  | succ n ih =>
    intro h
    simp only [left, List.range_succ, List.countP_append, List.countP_cons, List.countP_nil] at ih ⊢
    by_cases e : i = n
    · subst e
      have h1 : (seen.setIfInBounds i true).getD i false = true := by simp [hs]
      have h2 : (List.range i).countP (fun j => !(seen.setIfInBounds i true).getD j false) = (List.range i).countP (fun j => !seen.getD j false) := by
        refine List.countP_congr fun j hj => ?_
        rw [getD_set_ne false (by have := List.mem_range.1 hj; omega)]
      rw [h1, h2, hu]
      simp
    · have h1 : (seen.setIfInBounds i true).getD n false = seen.getD n false := getD_set_ne false e
      rw [h1]
      have := ih (by omega)
      omega
theorem left_least {seen : Array Bool} : ∀ {n : Nat}, left seen n ≠ 0 → ∃ k, k < n ∧ seen.getD k false = false ∧ ∀ j, j < k → seen.getD j false = true := by
  intro n
  induction n with
  | zero => intro h; exact absurd rfl h
  | succ n ih =>
    intro h
    by_cases h0 : left seen n = 0
    · refine ⟨n, by omega, ?_, left_zero h0⟩
      simp only [left, List.range_succ, List.countP_append, List.countP_cons, List.countP_nil] at h h0
      cases hs : seen.getD n false with
      | false => rfl
      | true => exact absurd h0 (by rw [hs] at h; simpa using h)
    · obtain ⟨k, hk, h1, h2⟩ := ih h0
      exact ⟨k, by omega, h1, h2⟩
theorem lexHead_spec {g : Nat} (f : Nat) : ∀ (k : Nat) (seen : Array Bool), seen.size = ops.size → (∀ j, seen.getD j false = decide (j < k)) → k + f ≤ ops.size → Region.lexHead md ops g f k seen = true →
    (∀ j, k ≤ j → j < k + f → ∃ o, ops[j]? = some o ∧ ∀ e ∈ o.after, Region.binds md e = true → e.on < j) ∧ ∃ full : Array Bool, full.size = ops.size ∧ (∀ j, full.getD j false = decide (j < k + f)) ∧ Region.seqB md ops g (k + f) full = true := by
  induction f with
  | zero => intro k seen hz hs _ hB; exact ⟨fun j h1 h2 => by omega, seen, hz, hs, hB⟩
  | succ f ih =>
    intro k seen hz hs hf hB
    simp only [Region.lexHead, Bool.and_eq_true] at hB
    have hkr : k ∈ Region.ready md ops seen := by simpa using hB.1.1
    obtain ⟨_, o, ho, hall⟩ := mem_ready.1 hkr
    obtain ⟨h1, full, h2, h3, h4⟩ := ih (k + 1) (seen.setIfInBounds k true) (by simpa using hz) (fun j => by
      by_cases e : k = j
      · subst e
        have : k < seen.size := by omega
        simp [this]
      · rw [getD_set_ne false e, hs j]
        exact decide_eq_decide.2 (by omega)) (by omega) hB.2
    refine ⟨fun j hj1 hj2 => ?_, full, h2, fun j => by rw [h3 j]; exact decide_eq_decide.2 (by omega), by rw [show k + (f + 1) = k + 1 + f by omega]; exact h4⟩
    by_cases e : j = k
    · subst e
      refine ⟨o, ho, fun x hx hb => ?_⟩
      have := hall x hx hb
      rw [hs] at this
      simpa using this
    · exact h1 j (by omega) (by omega)
theorem wp_region_inv {id : Nat} {Q : Exit → Act → World → Prop} {a : Act} {w : World} {l : List Oper} (n : Nat) (Inv : Array Bool → Act → World → Prop) (hm : P.follows .mixedOrders = true) (hB : Region.lexTailB .any l.toArray n = true)
    (h0 : Inv (Array.replicate l.toArray.size false) a w.drew)
    (hstep : ∀ seen a w i, i < n → i ∈ Region.ready .any l.toArray seen → i < seen.size → Inv seen a w → wpOp P l.toArray Q i (fun a' w' => Inv (seen.setIfInBounds i true) a' w') a w)
    (hend : ∀ seen a w, (∀ i, i < n → seen.getD i false = true) → Inv seen a w → wpList P l.toArray Q (l.drop n) a w) : (Code.region id l.toArray true).wp P Q a w := by
  simp only [Region.lexTailB, Bool.and_eq_true, decide_eq_true_eq] at hB
  obtain ⟨⟨⟨⟨hns, hn⟩, hsink⟩, hchain⟩, hlex⟩ := hB
  have hsz : l.toArray.size = l.length := by simp
  have hd : (l.drop n).length = l.toArray.size - n := by rw [List.length_drop, hsz]
  obtain ⟨hdeps, full, hfz, hfull, hseq⟩ := lexHead_spec (md := .any) (ops := l.toArray) n 0 _ Array.size_replicate (fun j => by rw [getD_replicate_false]; simp) (by omega) hlex
  rw [Nat.zero_add] at hseq
  have key : ∀ r seen a w, HeadInv .any l.toArray n seen → left seen n = r → Inv seen a w → wpAny P .any l.toArray Q (r + (l.toArray.size - n)) seen a w := by
    intro r
    induction r with
    | zero =>
      intro seen a w inv hr hI
      have hall := left_zero hr
      have hsame : seen = full := by
        refine Array.ext (by rw [inv.size, hfz]) fun j h1 h2 => ?_
        have e1 := hfull j
        have e2 : seen.getD j false = decide (j < 0 + n) := by
          by_cases hj : j < n
          · rw [hall j hj]; simp [hj]
          · have := getD_both (inv.tail j (by omega) (by rw [← inv.size]; exact h1))
            rw [this]; simp [hj]
        rw [← e1] at e2
        simpa [h1, h2] using e2
      have := wpAny_of_seq (md := .any) (Q' := Q) (l.drop n) n seen a w (fun j => by simp [List.getElem?_drop]) (by rw [hd, hsame]; exact hseq) (hend seen a w hall hI)
      rw [hd] at this
      rw [Nat.zero_add]
      exact this
    | succ r ih =>
      intro seen a w inv hr hI
      rw [Nat.add_right_comm]
      obtain ⟨k, hk, hku, hkl⟩ := left_least (seen := seen) (n := n) (by omega)
      have hks : k < seen.size := by rw [inv.size]; omega
      have hkr : k ∈ Region.ready .any l.toArray seen := by
        obtain ⟨o, ho, hb⟩ := hdeps k (by omega) (by omega)
        exact mem_ready.2 ⟨getD_in hks hku, o, ho, fun e he hbe => hkl _ (hb e he hbe)⟩
      refine ⟨fun e => (by rw [e] at hkr; cases hkr), fun i hi => ?_⟩
      have hin : i < n := Nat.lt_of_not_le fun h => tail_waits hsink hchain hn inv _ k rfl hk (getD_in hks hku) i h hi
      have his : i < seen.size := by rw [inv.size]; omega
      refine wpOp_mono (fun a' w' hI' => ih _ a' w' (inv.set hi hin) ?_ hI') (hstep seen a w i hin hi his hI)
      have := left_set his (getD_both (mem_ready.1 hi).1) n hin
      omega
  have inv0 : HeadInv .any l.toArray n (Array.replicate l.toArray.size false) :=
    ⟨Array.size_replicate, fun j p _ hs => (by rw [getD_replicate_false] at hs; cases hs), fun t _ ht' => getD_in (by rw [Array.size_replicate]; exact ht') (getD_replicate_false _ _)⟩
  have H := key n _ a w.drew inv0 (by
    have : ∀ m, left (Array.replicate l.toArray.size false) m = m := fun m => by
      unfold left
      rw [List.countP_eq_length.2 (fun i _ => by rw [getD_replicate_false]; rfl), List.length_range]
    exact this n) h0
  rw [show n + (l.toArray.size - n) = l.toArray.size by omega] at H
  exact wp_region_any hm H
end
end Go.Proofs.YtpfhlhcnmeodbaaGreatDoor
namespace Go.Proofs.YtpfhlhcnmeodbaaGreatDoor
open Go.RowKit
section
variable {P : Program}
def putAll : List Oper → (Nat → Value) → Act → Act
  | [], _, a => a
  | o :: l, V, a => putAll l (fun i => V (i + 1)) (a.put o.dst (V 0))
def apartB : List Oper → Bool
  | [] => true
  | o :: l => l.all (fun p => !(o.dst == p.dst)) && apartB l
def upd (V : Nat → Value) (i : Nat) (v : Value) : Nat → Value := fun j => if j = i then v else V j
theorem upd_same (V : Nat → Value) (i : Nat) (v : Value) : upd V i v i = v := by simp [upd]
theorem upd_ne (V : Nat → Value) {i j : Nat} (v : Value) (h : j ≠ i) : upd V i v j = V j := by simp [upd, h]
theorem put_put (a : Act) (d : Option Tmp) (u v : Value) : (a.put d u).put d v = a.put d v := by
  cases d with
  | none => rfl
  | some d => simp [Act.put]
theorem putAll_put (l : List Oper) (o : Oper) (v : Value) (h : l.all (fun p => !(o.dst == p.dst)) = true) : ∀ (V : Nat → Value) (a : Act), putAll l V (a.put o.dst v) = (putAll l V a).put o.dst v := by
  induction l with
  | nil => intro V a; rfl
  | cons p l ih =>
    intro V a
    simp only [List.all_cons, Bool.and_eq_true] at h
    rw [putAll, putAll, Act.put_comm a v (V 0) (fun d hd e => by rw [hd, e] at h; simp at h), ih h.2]
theorem putAll_upd (l : List Oper) (h : apartB l = true) : ∀ (i : Nat) (o : Oper) (v : Value) (V : Nat → Value) (a : Act), l[i]? = some o → putAll l (upd V i v) a = (putAll l V a).put o.dst v := by
  induction l with
  | nil => intro i o v V a ho; simp at ho
  | cons p l ih =>
    intro i o v V a ho
    simp only [apartB, Bool.and_eq_true] at h
    cases i with
    | zero =>
      obtain rfl : p = o := by simpa using ho
      rw [putAll, putAll, ← putAll_put l p v h.1, put_put]
      rfl
    | succ i =>
      rw [putAll, putAll, ← ih h.2 i o v (fun j => V (j + 1)) _ (by simpa using ho)]
      congr 1
      funext j
      simp [upd]
structure OpWp (P : Program) (o : Oper) (a : Act) (w : World) (K : Act → World → Prop) (Q : Exit → Act → World → Prop) : Prop where
  out : Oper.wp P o a w K Q
structure FreeStep (P : Program) (ops : Array Oper) (Q : Exit → Act → World → Prop) (F : (Nat → Value) → Act) (Inv : (Nat → Bool) → (Nat → Value) → World → Prop) (o : Oper) (i : Nat) : Prop where
  go : ∀ s V w, (∀ e ∈ o.after, Region.binds .any e = true → s e.on = true) → s i = false → Inv s V w →
    ∀ K : Act → World → Prop, (∀ v w', Inv (fun j => s j || j == i) (upd V i v) w' → K ((F V).put o.dst v) w') →
      if Region.wanted o (yielded ops (F V).tmps) = true then Oper.wp P o (F V) w K Q else K ((F V).put o.dst undef) w
def FreeSteps (P : Program) (ops : Array Oper) (Q : Exit → Act → World → Prop) (F : (Nat → Value) → Act) (Inv : (Nat → Bool) → (Nat → Value) → World → Prop) : List Oper → Nat → Prop
  | [], _ => True
  | o :: l, i => FreeStep P ops Q F Inv o i ∧ FreeSteps P ops Q F Inv l (i + 1)
theorem FreeSteps.nil {ops : Array Oper} {Q : Exit → Act → World → Prop} {F : (Nat → Value) → Act} {Inv : (Nat → Bool) → (Nat → Value) → World → Prop} {i : Nat} : FreeSteps P ops Q F Inv [] i := trivial
theorem FreeSteps.cons {ops : Array Oper} {Q : Exit → Act → World → Prop} {F : (Nat → Value) → Act} {Inv : (Nat → Bool) → (Nat → Value) → World → Prop} {o : Oper} {l : List Oper} {i : Nat} (h : FreeStep P ops Q F Inv o i) (hs : FreeSteps P ops Q F Inv l (i + 1)) : FreeSteps P ops Q F Inv (o :: l) i := ⟨h, hs⟩
theorem FreeStep.plain {ops : Array Oper} {Q : Exit → Act → World → Prop} {F : (Nat → Value) → Act} {Inv : (Nat → Bool) → (Nat → Value) → World → Prop} {o : Oper} {i : Nat} (hg : o.guard = none)
    (h : ∀ s V w, (∀ e ∈ o.after, Region.binds .any e = true → s e.on = true) → Inv s V w → ∀ K : Act → World → Prop, (∀ v w', Inv (fun j => s j || j == i) (upd V i v) w' → K ((F V).put o.dst v) w') → OpWp P o (F V) w K Q) : FreeStep P ops Q F Inv o i := ⟨fun s V w hr _ hI K hK => by
  have hw : Region.wanted o (yielded ops (F V).tmps) = true := by simp [Region.wanted, hg]
  rw [if_pos hw]
  exact (h s V w hr hI K hK).out⟩
theorem FreeStep.fresh {ops : Array Oper} {Q : Exit → Act → World → Prop} {F : (Nat → Value) → Act} {Inv : (Nat → Bool) → (Nat → Value) → World → Prop} {o : Oper} {i : Nat} (hg : o.guard = none)
    (h : ∀ s V w, (∀ e ∈ o.after, Region.binds .any e = true → s e.on = true) → s i = false → Inv s V w → ∀ K : Act → World → Prop, (∀ v w', Inv (fun j => s j || j == i) (upd V i v) w' → K ((F V).put o.dst v) w') → OpWp P o (F V) w K Q) : FreeStep P ops Q F Inv o i := ⟨fun s V w hr hu hI K hK => by
  have hw : Region.wanted o (yielded ops (F V).tmps) = true := by simp [Region.wanted, hg]
  rw [if_pos hw]
  exact (h s V w hr hu hI K hK).out⟩
theorem FreeSteps.get {ops : Array Oper} {Q : Exit → Act → World → Prop} {F : (Nat → Value) → Act} {Inv : (Nat → Bool) → (Nat → Value) → World → Prop} (l : List Oper) : ∀ (i k : Nat) (o : Oper), FreeSteps P ops Q F Inv l k → l[i]? = some o → FreeStep P ops Q F Inv o (k + i) := by
  induction l with
  | nil => intro i k o _ ho; simp at ho
  | cons p l ih =>
    intro i k o h ho
    cases i with
    | zero =>
      obtain rfl : p = o := by simpa using ho
      exact h.1
    | succ i =>
      have := ih i (k + 1) o h.2 (by simpa using ho)
      rwa [show k + 1 + i = k + (i + 1) by omega] at this
theorem wp_region_free {id : Nat} {Q : Exit → Act → World → Prop} {a : Act} {w : World} {l : List Oper} (n : Nat) (Inv : (Nat → Bool) → (Nat → Value) → World → Prop) (V0 : Nat → Value) (hm : P.follows .mixedOrders = true) (hB : Region.lexTailB .any l.toArray n = true) (hd : apartB (l.take n) = true)
    (ha : putAll (l.take n) V0 a = a) (h0 : Inv (fun _ => false) V0 w.drew)
    (hstep : FreeSteps P l.toArray Q (fun V => putAll (l.take n) V a) Inv (l.take n) 0)
    (hend : ∀ s V w, (∀ i, i < n → s i = true) → Inv s V w → wpList P l.toArray Q (l.drop n) (putAll (l.take n) V a) w) : (Code.region id l.toArray true).wp P Q a w := by
  have hn : n < l.length := by
    simp only [Region.lexTailB, Bool.and_eq_true, decide_eq_true_eq] at hB
    simpa using hB.1.1.1.2
  refine wp_region_inv n (fun seen a' w' => ∃ V, a' = putAll (l.take n) V a ∧ Inv (fun j => seen.getD j false) V w') hm hB ⟨V0, ha.symm, ?_⟩ ?_ ?_
  · rw [show (fun j => (Array.replicate l.toArray.size false).getD j false) = fun _ => false from funext fun j => getD_replicate_false _ _]
    exact h0
  · rintro seen a' w' i hi hr hs ⟨V, rfl, hI⟩
    obtain ⟨hu, o, ho, hall⟩ := mem_ready.1 hr
    have ho' : (l.take n)[i]? = some o := by
      rw [List.getElem?_take, if_pos hi]
      simpa using ho
    have hF := FreeSteps.get (l.take n) i 0 o hstep ho'
    rw [Nat.zero_add] at hF
    have e : (fun j => (seen.setIfInBounds i true).getD j false) = fun j => seen.getD j false || j == i := funext fun j => by
      by_cases hj : i = j
      · subst hj; simp [hs]
      · rw [getD_set_ne false hj]
        have : (j == i) = false := by simp; omega
        rw [this, Bool.or_false]
    have hF2 := hF.go _ V w' hall (getD_both hu) hI (fun a'' w'' => ∃ V, a'' = putAll (l.take n) V a ∧ Inv (fun j => (seen.setIfInBounds i true).getD j false) V w'') (fun v w'' h => ⟨upd V i v, (putAll_upd _ hd i o v V a ho').symm, by rw [e]; exact h⟩)
    unfold wpOp
    simp only [ho]
    split
    · rename_i hw
      rw [if_pos hw] at hF2
      exact .inl hF2
    · rename_i hw
      rw [if_neg hw] at hF2
      exact hF2
  · rintro seen a' w' hall ⟨V, rfl, hI⟩
    exact hend _ V w' (fun i hi => hall i hi) hI
theorem wpList_load_want {w : World} {ops : Array Oper} {rest : List Oper} {o : Oper} {a : Act} {Q : Exit → Act → World → Prop} (hw : Region.wanted o (yielded ops a.tmps) = true) (ty : TypeId) (x : Operand) (ho : o.op = .load ty x)
    (g : Nat) (k : IntKind) (l : List Nat) (t : TypeId) (d : TypeDesc) (hx : a.eval x = .pointer (some ⟨g, 0, none⟩)) (hg : Blk g t k l w)
    (hu : P.underlying ty = some d) (hd : (match d with | .struct _ | .array _ _ => true | _ => false) = true) (hi : (P.info? ty).map (·.size) = some l.length)
    (h : wpList P ops Q rest (a.put o.dst (.agg (nums k l).toArray)) w) : wpList P ops Q (o :: rest) a w :=
  BigFrame.wpList_want hw fun _ hK => wp_load_row ty x ho g hx t _ _ d hg hu hd (by rw [nums_size]; exact hi) (hK _ _ h)
theorem op_load_nums {o : Oper} {a : Act} {w : World} {K : Act → World → Prop} {Q : Exit → Act → World → Prop} (ty : TypeId) (x : Operand) (ho : o.op = .load ty x) (b : Nat) (k : IntKind) (l : List Nat) (t : TypeId) (d : TypeDesc)
    (hx : a.eval x = .pointer (some ⟨b, 0, none⟩)) (hb : Blk b t k l w) (hu : P.underlying ty = some d) (hd : (match d with | .struct _ | .array _ _ => true | _ => false) = true) (hi : (P.info? ty).map (·.size) = some l.length)
    (h : K (a.put o.dst (.agg (nums k l).toArray)) w) : OpWp P o a w K Q := by
  refine ⟨?_⟩
  unfold Oper.wp execOp
  simp only [ho, hx, Instr.loadAt, Instr.sureAddr, Sem.run_bind, Sem.run_pure, Result.andThen_ok, run_loadVar_row w b t ty _ (0, 0) d hb hu hd (by rw [nums_size]; exact hi)]
  exact h
theorem op_move {o : Oper} {a : Act} {w : World} {K : Act → World → Prop} {Q : Exit → Act → World → Prop} (x : Operand) (ho : o.op = .move x) (v : Value) (hx : a.eval x = v) (h : K (a.put o.dst v) w) : OpWp P o a w K Q := by
  refine ⟨?_⟩
  unfold Oper.wp execOp
  simp only [ho, hx, Sem.run_pure]
  exact h
theorem op_extract {o : Oper} {a : Act} {w : World} {K : Act → World → Prop} {Q : Exit → Act → World → Prop} (x : Operand) (n : Nat) (ho : o.op = .extract x n) (vs : Array Value) (v : Value) (hx : a.eval x = .tuple vs) (hv : vs[n]? = some v) (h : K (a.put o.dst v) w) : OpWp P o a w K Q := by
  refine ⟨?_⟩
  unfold Oper.wp execOp
  simp [ho, hx, hv, Instr.extract]
  exact h
theorem cons_eq {α : Type} {a b : α} {l m : List α} (h : a = b) (h2 : l = m) : a :: l = b :: m := by rw [h, h2]
structure Shut (p : Prop) : Prop where
  out : p
theorem op_call {o : Oper} {a : Act} {w : World} {K : Act → World → Prop} {Q : Exit → Act → World → Prop} {f : FuncId} {fn : Func} (hf : P.funcs[f]? = some fn) (hname : (fn.name == "runtime.NumGoroutine") = false) (hb : fn.body.isNone = false)
    {args : Array Operand} {ts : Array TypeId} (ho : o.op = .call { callee := .value (.func f), args := args, argTypes := ts }) (vs : List Value) (hv : args.toList.map a.eval = vs) {C : Ending → World → Prop}
    (hc : Calls P f vs.toArray w C) (h : ∀ e w', C e w' → ∃ v, e = .returned v ∧ K (a.put o.dst v) w') : OpWp P o a w K Q := by
  have hr : (execOp a.eval o).run P w = .ok (.enter f vs.toArray) w := by
    obtain ⟨dst, op, ty, pos, after, guard⟩ := o
    simp only at ho
    subst ho
    rw [execOp_call_go, show args.map a.eval = vs.toArray by rw [← hv, ← Array.toList_map, Array.toArray_toList], Array.append_empty, Array.empty_append]
    have h1 : ¬ fn.name = "runtime.NumGoroutine" := by simpa using hname
    have h2 : ¬ fn.body = none := by intro e; rw [e] at hb; cases hb
    simp [callFunc, Sem.run_bind, hf, h1, h2, go_sem]
  refine ⟨?_⟩
  unfold Oper.wp
  rw [hr, Oper.upon_enter]
  refine hc.mono fun e w' he => ?_
  obtain ⟨v, rfl, hk⟩ := h e w' he
  exact hk
theorem op_alloc {o : Oper} {a : Act} {w : World} {K : Act → World → Prop} {Q : Exit → Act → World → Prop} (ty : TypeId) (ho : o.op = .alloc ty) (z : Array Value) (hz : ∀ w, (Instr.alloc ty true (.tuple #[])).run P w = .ok (.pointer (some ⟨w.heap.size, 0, none⟩)) (w.alloc (.cells z ty)))
    (h : K (a.put o.dst (.pointer (some ⟨w.heap.size, 0, none⟩))) (w.alloc (.cells z ty))) : OpWp P o a w K Q := by
  refine ⟨?_⟩
  unfold Oper.wp execOp
  simp only [ho, Sem.run_bind, Sem.run_pure, Result.andThen_ok, hz]
  exact h
def Cells (b : Nat) (t : TypeId) (cs : Array Value) (w : World) : Prop := w.heap[b]? = some (.cells cs t (0, 0))
theorem Cells.lt {b : Nat} {t : TypeId} {cs : Array Value} {w : World} (h : Cells b t cs w) : b < w.heap.size := lt_of_block h
theorem Cells.below {b : Nat} {t : TypeId} {cs : Array Value} {w w' : World} (h : Cells b t cs w) (hb : Below w.heap.size w w') : Cells b t cs w' := (hb.block b h.lt).trans h
theorem Cells.but {b g : Nat} {t : TypeId} {cs : Array Value} {w w' : World} (h : Cells b t cs w) (hb : But g w w') (hne : b ≠ g) : Cells b t cs w' := (hb.block b h.lt hne).trans h
theorem Cells.alloc {b : Nat} {t : TypeId} {cs : Array Value} {w : World} (h : Cells b t cs w) (o : Obj) : Cells b t cs (w.alloc o) := (heap_alloc_old w o h.lt).trans h
theorem quiet_load_cells {o : Oper} {a : Act} {C : World → Prop} {K : Act → Prop} (ty : TypeId) (x : Operand) (ho : o.op = .load ty x) (b : Nat) (cs : Array Value) (t : TypeId) (d : TypeDesc)
    (hx : a.eval x = .pointer (some ⟨b, 0, none⟩)) (hC : ∀ w, C w → Cells b t cs w) (hu : P.underlying ty = some d) (hd : (match d with | .struct _ | .array _ _ => true | _ => false) = true) (hi : (P.info? ty).map (·.size) = some cs.size)
    (hk : K (a.put o.dst (.agg cs))) : o.quiet P a C K := by
  refine ⟨_, fun w hw => ?_, hk⟩
  unfold Oper.quietAt execOp
  simp only [ho, hx, Instr.loadAt, Instr.sureAddr, Sem.run_bind, Sem.run_pure, Result.andThen_ok, run_loadVar_row w b t ty _ (0, 0) d (hC w hw) hu hd hi]
  exact ⟨rfl, rfl⟩
theorem wpList_load_cells {w : World} {ops : Array Oper} {rest : List Oper} {o : Oper} {a : Act} {Q : Exit → Act → World → Prop} (hgd : o.guard = none) (ty : TypeId) (x : Operand) (ho : o.op = .load ty x)
    (g : Nat) (cs : Array Value) (t : TypeId) (d : TypeDesc) (hx : a.eval x = .pointer (some ⟨g, 0, none⟩)) (hg : Cells g t cs w)
    (hu : P.underlying ty = some d) (hd : (match d with | .struct _ | .array _ _ => true | _ => false) = true) (hi : (P.info? ty).map (·.size) = some cs.size)
    (h : wpList P ops Q rest (a.put o.dst (.agg cs)) w) : wpList P ops Q (o :: rest) a w :=
  wpList_load_row hgd ty x ho g hx t _ _ d hg hu hd hi h
theorem wpList_store_cells {w : World} {ops : Array Oper} {rest : List Oper} {o : Oper} {a : Act} {Q : Exit → Act → World → Prop} (hgd : o.guard = none) (ty : TypeId) (x y : Operand) (ho : o.op = .store ty x y)
    (hd : o.dst = none) (g : Nat) (cs cs' : Array Value) (t : TypeId) (hx : a.eval x = .pointer (some ⟨g, 0, none⟩)) (hy : a.eval y = .agg cs')
    (hg : Cells g t cs w) (hi : (P.info? ty).map (·.size) = some cs'.size) (hl : cs.size = cs'.size) (h1 : cs'.all (·.oneCell') = true)
    (h : ∀ w', Hid (Cells g t cs' w') → Hid (But g w w') → wpList P ops Q rest a w') : wpList P ops Q (o :: rest) a w :=
  wpList_store_rowTo hgd ty x y ho hd g cs' hx hy t _ hg hi hl h1 (h _ (setRow_heap _ _ _ _ _ _ hg) ((But.refl g w).setRow _))
theorem op_load_cells {o : Oper} {a : Act} {w : World} {K : Act → World → Prop} {Q : Exit → Act → World → Prop} (ty : TypeId) (x : Operand) (ho : o.op = .load ty x) (b : Nat) (cs : Array Value) (t : TypeId) (d : TypeDesc)
    (hx : a.eval x = .pointer (some ⟨b, 0, none⟩)) (hb : Cells b t cs w) (hu : P.underlying ty = some d) (hd : (match d with | .struct _ | .array _ _ => true | _ => false) = true) (hi : (P.info? ty).map (·.size) = some cs.size)
    (h : K (a.put o.dst (.agg cs)) w) : OpWp P o a w K Q := by
  refine ⟨?_⟩
  unfold Oper.wp execOp
  simp only [ho, hx, Instr.loadAt, Instr.sureAddr, Sem.run_bind, Sem.run_pure, Result.andThen_ok, run_loadVar_row w b t ty _ (0, 0) d hb hu hd hi]
  exact h
theorem op_store_nums {o : Oper} {a : Act} {w : World} {K : Act → World → Prop} {Q : Exit → Act → World → Prop} (ty : TypeId) (x y : Operand) (ho : o.op = .store ty x y) (g : Nat) (k : IntKind) (l l' : List Nat) (t : TypeId) (hx : a.eval x = .pointer (some ⟨g, 0, none⟩)) (hy : a.eval y = .agg (nums k l').toArray)
    (hg : Blk g t k l w) (hi : (P.info? ty).map (·.size) = some l'.length) (hl : l.length = l'.length) (h : ∀ w', Blk g t k l' w' → But g w w' → K (a.put o.dst undef) w') : OpWp P o a w K Q :=
  ⟨wp_store_row ty x y ho g _ hx hy t _ hg (by rw [nums_size]; exact hi) (by rw [nums_size, nums_size]; exact hl) (nums_all _ _) (h _ hg.row ((But.refl g w).setRow _))⟩
def Val (s : Nat → Bool) (V : Nat → Value) (i : Nat) (v : Value) : Prop := s i = true → V i = v
def New (s : Nat → Bool) (V : Nat → Value) (B i : Nat) (t : TypeId) (k : IntKind) (l : List Nat) (w : World) : Prop := s i = true → ∃ g, V i = .pointer (some ⟨g, 0, none⟩) ∧ B ≤ g ∧ Blk g t k l w
def Two (s : Nat → Bool) (V : Nat → Value) (i j : Nat) : Prop := s i = true → s j = true → V i ≠ V j
theorem Val.none {V : Nat → Value} {i : Nat} {v : Value} : Val (fun _ => false) V i v := fun h => by cases h
theorem New.none {V : Nat → Value} {B i : Nat} {t : TypeId} {k : IntKind} {l : List Nat} {w : World} : New (fun _ => false) V B i t k l w := fun h => by cases h
theorem Two.none {V : Nat → Value} {i j : Nat} : Two (fun _ => false) V i j := fun h => by cases h
theorem seen_ne {s : Nat → Bool} {i j : Nat} (hne : j ≠ i) (h : (s j || j == i) = true) : s j = true := by
  have : (j == i) = false := by simpa using hne
  rwa [this, Bool.or_false] at h
theorem Val.same {s : Nat → Bool} {V : Nat → Value} {i : Nat} {v : Value} : Val (fun j => s j || j == i) (upd V i v) i v := fun _ => upd_same _ _ _
theorem Val.ne {s : Nat → Bool} {V : Nat → Value} {i j : Nat} {v u : Value} (h : Val s V j v) (hne : j ≠ i) : Val (fun j => s j || j == i) (upd V i u) j v := fun hs => by
  rw [upd_ne V u hne]
  exact h (seen_ne hne hs)
theorem New.ne {s : Nat → Bool} {V : Nat → Value} {B i j : Nat} {t : TypeId} {k : IntKind} {l : List Nat} {w w' : World} {u : Value} (h : New s V B j t k l w) (hne : j ≠ i) (hb : Below w.heap.size w w') : New (fun j => s j || j == i) (upd V i u) B j t k l w' := fun hs => by
  obtain ⟨g, e, hg, hk⟩ := h (seen_ne hne hs)
  exact ⟨g, by rw [upd_ne V u hne]; exact e, hg, hk.below hb⟩
theorem New.same {s : Nat → Bool} {V : Nat → Value} {B i : Nat} {t : TypeId} {k : IntKind} {l : List Nat} {w : World} (hB : B ≤ w.heap.size) : New (fun j => s j || j == i) (upd V i (.pointer (some ⟨w.heap.size, 0, Option.none⟩))) B i t k l (w.alloc (.cells (nums k l).toArray t)) :=
  fun _ => ⟨w.heap.size, upd_same _ _ _, hB, heap_alloc_new w _⟩
theorem Two.ne {s : Nat → Bool} {V : Nat → Value} {i j m : Nat} {u : Value} (h : Two s V i j) (hi : i ≠ m) (hj : j ≠ m) : Two (fun j => s j || j == m) (upd V m u) i j := fun h1 h2 => by
  rw [upd_ne V u hi, upd_ne V u hj]
  exact h (seen_ne hi h1) (seen_ne hj h2)
theorem Two.left {s : Nat → Bool} {V : Nat → Value} {B i j : Nat} {t : TypeId} {k : IntKind} {l : List Nat} {w : World} (h : New s V B j t k l w) (hne : j ≠ i) : Two (fun j => s j || j == i) (upd V i (.pointer (some ⟨w.heap.size, 0, Option.none⟩))) i j := fun _ h2 => by
  obtain ⟨g, e, _, hk⟩ := h (seen_ne hne h2)
  rw [upd_same, upd_ne V _ hne, e]
  intro h3
  have := hk.lt
  simp only [Value.pointer.injEq, Option.some.injEq, Addr.mk.injEq] at h3
  omega
theorem Two.right {s : Nat → Bool} {V : Nat → Value} {B i j : Nat} {t : TypeId} {k : IntKind} {l : List Nat} {w : World} (h : New s V B i t k l w) (hne : i ≠ j) : Two (fun m => s m || m == j) (upd V j (.pointer (some ⟨w.heap.size, 0, Option.none⟩))) i j := fun h1 _ => by
  obtain ⟨g, e, _, hk⟩ := h (seen_ne hne h1)
  rw [upd_same, upd_ne V _ hne, e]
  intro h3
  have := hk.lt
  simp only [Value.pointer.injEq, Option.some.injEq, Addr.mk.injEq] at h3
  omega
def Put (s : Nat → Bool) (V : Nat → Value) (B i j : Nat) (t : TypeId) (k : IntKind) (l0 l1 : List Nat) (w : World) : Prop := s i = true → ∃ g, V i = .pointer (some ⟨g, 0, none⟩) ∧ B ≤ g ∧ Blk g t k (if s j = true then l1 else l0) w
theorem Put.none {V : Nat → Value} {B i j : Nat} {t : TypeId} {k : IntKind} {l0 l1 : List Nat} {w : World} : Put (fun _ => false) V B i j t k l0 l1 w := fun h => by cases h
theorem Put.ne {s : Nat → Bool} {V : Nat → Value} {B i j m : Nat} {t : TypeId} {k : IntKind} {l0 l1 : List Nat} {w w' : World} {u : Value} (h : Put s V B i j t k l0 l1 w) (hne : i ≠ m) (hj : j ≠ m) (hb : Below w.heap.size w w') : Put (fun n => s n || n == m) (upd V m u) B i j t k l0 l1 w' := fun hs => by
  obtain ⟨g, e, hg, hk⟩ := h (seen_ne hne hs)
  have e2 : (s j || j == m) = s j := by simp [hj]
  exact ⟨g, by rw [upd_ne V u hne]; exact e, hg, by simp only [e2]; exact hk.below hb⟩
theorem Put.made {s : Nat → Bool} {V : Nat → Value} {B i j : Nat} {t : TypeId} {k : IntKind} {l0 l1 : List Nat} {w : World} (hB : B ≤ w.heap.size) (hj : s j = false) (hne : j ≠ i) : Put (fun n => s n || n == i) (upd V i (.pointer (some ⟨w.heap.size, 0, Option.none⟩))) B i j t k l0 l1 (w.alloc (.cells (nums k l0).toArray t)) :=
  fun _ => ⟨w.heap.size, upd_same _ _ _, hB, by simp [hj, hne]; exact heap_alloc_new w _⟩
theorem Put.stored {s : Nat → Bool} {V : Nat → Value} {B i j g : Nat} {t : TypeId} {k : IntKind} {l0 l1 : List Nat} {w : World} {u : Value} (hV : V i = .pointer (some ⟨g, 0, Option.none⟩)) (hB : B ≤ g) (hne : i ≠ j) (h : Blk g t k l1 w) : Put (fun n => s n || n == j) (upd V j u) B i j t k l0 l1 w :=
  fun _ => ⟨g, by rw [upd_ne V u hne]; exact hV, hB, by simp; exact h⟩
def Late (s : Nat → Bool) (i j : Nat) : Prop := s j = true → s i = true
theorem Late.none {i j : Nat} : Late (fun _ => false) i j := fun h => by cases h
theorem Late.ne {s : Nat → Bool} {i j m : Nat} (h : Late s i j) (hj : j ≠ m) : Late (fun n => s n || n == m) i j := fun hs => by
  show (s i || i == m) = true
  rw [h (seen_ne hj hs), Bool.true_or]
theorem Late.same {s : Nat → Bool} {i j : Nat} (h : s i = true) : Late (fun n => s n || n == j) i j := fun _ => by
  show (s i || i == j) = true
  rw [h, Bool.true_or]
theorem Late.not {s : Nat → Bool} {i j : Nat} (h : Late s i j) (hi : s i = false) : s j = false := by
  cases e : s j with
  | false => rfl
  | true => rw [h e] at hi; cases hi
end
end Go.Proofs.YtpfhlhcnmeodbaaGreatDoor
namespace Go.Proofs.YtpfhlhcnmeodbaaGreatDoor
open Go.RowKit
theorem at_three (w : World) (p q r : List UInt8) : StrsAt (some ⟨w.heap.size, 0, none⟩) [p, q, r] (w.alloc (.cells #[.string ⟨p.toArray⟩, .string ⟨q.toArray⟩, .string ⟨r.toArray⟩] 9)) := by
  refine strsAt_own (B := w.heap.size) (c := 3) ?_
  exact World.ownsRow_lit (base := w.heap.size) (e := 9) (size := 1) w #[.string ⟨p.toArray⟩, .string ⟨q.toArray⟩, .string ⟨r.toArray⟩] 3 (Nat.le_refl _) (by unfold maxLen; omega) rfl
theorem cat2 (l s : List UInt8) : (({ data := l.toArray } : ByteArray) ++ { data := s.toArray }) = { data := (l ++ s).toArray } := by
  rw [ByteArray.ext_iff]; simp
theorem quiet_conv_nums {P : Program} {o : Oper} {a : Act} {C : World → Prop} {K : Act → Prop} (src dst e : TypeId) (x : Operand) (ho : o.op = .convert src dst x) (b cap : Nat) (l : List Nat) (t : TypeId)
    (hx : a.eval x = .slice (some ⟨b, 0, none⟩) l.length cap) (hl : ∀ y ∈ l, y < 256) (hC : ∀ w, C w → Blk b t .u8 l w) (hs : P.underlying src = some (.slice e)) (he : P.underlying e = some (.int .u8)) (hd : P.underlying dst = some .string)
    (hk : K (a.put o.dst (.string ⟨(txt l).toArray⟩))) : o.quiet P a C K := by
  refine ⟨_, fun w hw => ?_, hk⟩
  have hc := run_convert_bytes_back (P := P) w src dst e ⟨b, 0, none⟩ cap (txt l) hs he hd (fun j hj => by
    rw [txt_len] at hj
    rw [Addr.add_lit, Nat.zero_add, (hC w hw).cell j hj, List.getD_eq_getElem?_getD, List.getElem?_eq_getElem hj]
    have h1 := hl _ (List.getElem_mem hj)
    simp only [txt, List.getElem_map, Option.getD_some]
    rw [show (UInt8.ofNat l[j]).toNat = l[j] by simp; omega])
  rw [txt_len] at hc
  unfold Oper.quietAt execOp
  simp only [ho, hx, Sem.run_bind, Sem.run_pure, hc, Result.andThen_ok]
  exact ⟨rfl, rfl⟩
theorem conv_blk {P : Program} (w : World) (src dst e : TypeId) (b cap n : Nat) (l : List Nat) (t : TypeId) (hn : n = l.length) (hl : ∀ y ∈ l, y < 256) (hb : Blk b t .u8 l w) (hs : P.underlying src = some (.slice e)) (he : P.underlying e = some (.int .u8)) (hd : P.underlying dst = some .string) :
    (convert src dst (.slice (some ⟨b, 0, none⟩) n cap)).run P w = .ok (.string ⟨(txt l).toArray⟩) w := by
  subst hn
  have hc := run_convert_bytes_back (P := P) w src dst e ⟨b, 0, none⟩ cap (txt l) hs he hd (fun j hj => by
    rw [txt_len] at hj
    rw [Addr.add_lit, Nat.zero_add, hb.cell j hj, List.getD_eq_getElem?_getD, List.getElem?_eq_getElem hj]
    have h1 := hl _ (List.getElem_mem hj)
    simp only [txt, List.getElem_map, Option.getD_some]
    rw [show (UInt8.ofNat l[j]).toNat = l[j] by simp; omega])
  rwa [txt_len] at hc
theorem run_loadVar_cell {P : Program} (w : World) (ty : TypeId) (p : Addr) (v : Value) (hc : w.cell? p = some v) (hi : ∀ w, (isAgg ty).run P w = .ok false w) : (loadVar ty p).run P w = .ok v w := by
  simp [loadVar, hi, hc, go_sem]
theorem quiet_load_cell {P : Program} {o : Oper} {a : Act} {C : World → Prop} {K : Act → Prop} (ty : TypeId) (x : Operand) (ho : o.op = .load ty x) (p : Addr) (v : Value)
    (hx : a.eval x = .pointer (some p)) (hC : ∀ w, C w → w.cell? p = some v) (hi : ∀ w, (isAgg ty).run P w = .ok false w) (hk : K (a.put o.dst v)) : o.quiet P a C K := by
  refine ⟨_, fun w hw => ?_, hk⟩
  unfold Oper.quietAt execOp
  simp only [ho, hx, Instr.loadAt, Instr.sureAddr, Sem.run_bind, Sem.run_pure, Result.andThen_ok, run_loadVar_cell w ty p v (hC w hw) hi]
  exact ⟨rfl, rfl⟩
theorem two_new (w : World) (l m : List Nat) (t u : TypeId) : Blk w.heap.size t .u8 l ((w.alloc (.cells (nums .u8 l).toArray t)).alloc (.cells (nums .u8 m).toArray u)) ∧
    Blk (w.heap.size + 1) u .u8 m ((w.alloc (.cells (nums .u8 l).toArray t)).alloc (.cells (nums .u8 m).toArray u)) ∧ Below w.heap.size w ((w.alloc (.cells (nums .u8 l).toArray t)).alloc (.cells (nums .u8 m).toArray u)) := by
  have h1 : Blk w.heap.size t .u8 l (w.alloc (.cells (nums .u8 l).toArray t)) := heap_alloc_new w _
  have h2 : Blk (w.heap.size + 1) u .u8 m ((w.alloc (.cells (nums .u8 l).toArray t)).alloc (.cells (nums .u8 m).toArray u)) := by
    have h := heap_alloc_new (w.alloc (.cells (nums .u8 l).toArray t)) (.cells (nums .u8 m).toArray u)
    rw [World.size_alloc] at h
    exact h
  exact ⟨h1.alloc _, h2, ((Below.refl _ w).alloc (Nat.le_refl _) _).alloc (by simp) _⟩
theorem place_new (w : World) (l m : List Nat) (a : Array Value) (t v u : TypeId) :
    Blk w.heap.size t .u8 l (((w.alloc (.cells (nums .u8 l).toArray t)).alloc (.cells a v)).alloc (.cells (nums .u8 m).toArray u)) ∧
    (((w.alloc (.cells (nums .u8 l).toArray t)).alloc (.cells a v)).alloc (.cells (nums .u8 m).toArray u)).heap[w.heap.size + 1]? = some (.cells a v (0, 0)) ∧
    Blk (w.heap.size + 2) u .u8 m (((w.alloc (.cells (nums .u8 l).toArray t)).alloc (.cells a v)).alloc (.cells (nums .u8 m).toArray u)) ∧
    Below w.heap.size w (((w.alloc (.cells (nums .u8 l).toArray t)).alloc (.cells a v)).alloc (.cells (nums .u8 m).toArray u)) := by
  have h1 : Blk w.heap.size t .u8 l (w.alloc (.cells (nums .u8 l).toArray t)) := heap_alloc_new w _
  have h2 : ((w.alloc (.cells (nums .u8 l).toArray t)).alloc (.cells a v)).heap[w.heap.size + 1]? = some (.cells a v (0, 0)) := by
    have h := heap_alloc_new (w.alloc (.cells (nums .u8 l).toArray t)) (.cells a v)
    rw [World.size_alloc] at h
    exact h
  have h3 : Blk (w.heap.size + 2) u .u8 m (((w.alloc (.cells (nums .u8 l).toArray t)).alloc (.cells a v)).alloc (.cells (nums .u8 m).toArray u)) := by
    have h := heap_alloc_new ((w.alloc (.cells (nums .u8 l).toArray t)).alloc (.cells a v)) (.cells (nums .u8 m).toArray u)
    rw [World.size_alloc, World.size_alloc] at h
    exact h
  exact ⟨(h1.alloc _).alloc _, (heap_alloc_old _ _ (lt_of_block h2)).trans h2, h3, (((Below.refl _ w).alloc (Nat.le_refl _) _).alloc (by simp) _).alloc (by simp; omega) _⟩
theorem three_of (w : World) (k1 k2 k3 : IntKind) (l m n : List Nat) (t u v : TypeId) : Blk w.heap.size t k1 l (((w.alloc (.cells (nums k1 l).toArray t)).alloc (.cells (nums k2 m).toArray u)).alloc (.cells (nums k3 n).toArray v)) ∧
    Blk (w.heap.size + 1) u k2 m (((w.alloc (.cells (nums k1 l).toArray t)).alloc (.cells (nums k2 m).toArray u)).alloc (.cells (nums k3 n).toArray v)) ∧
    Blk (w.heap.size + 2) v k3 n (((w.alloc (.cells (nums k1 l).toArray t)).alloc (.cells (nums k2 m).toArray u)).alloc (.cells (nums k3 n).toArray v)) ∧
    Below w.heap.size w (((w.alloc (.cells (nums k1 l).toArray t)).alloc (.cells (nums k2 m).toArray u)).alloc (.cells (nums k3 n).toArray v)) := by
  have h1 : Blk w.heap.size t k1 l (w.alloc (.cells (nums k1 l).toArray t)) := heap_alloc_new w _
  have h2 : Blk (w.heap.size + 1) u k2 m ((w.alloc (.cells (nums k1 l).toArray t)).alloc (.cells (nums k2 m).toArray u)) := by
    have h := heap_alloc_new (w.alloc (.cells (nums k1 l).toArray t)) (.cells (nums k2 m).toArray u)
    rw [World.size_alloc] at h
    exact h
  have h3 : Blk (w.heap.size + 2) v k3 n (((w.alloc (.cells (nums k1 l).toArray t)).alloc (.cells (nums k2 m).toArray u)).alloc (.cells (nums k3 n).toArray v)) := by
    have h := heap_alloc_new ((w.alloc (.cells (nums k1 l).toArray t)).alloc (.cells (nums k2 m).toArray u)) (.cells (nums k3 n).toArray v)
    rw [World.size_alloc, World.size_alloc] at h
    exact h
  exact ⟨(h1.alloc _).alloc _, h2.alloc _, h3, (((Below.refl _ w).alloc (Nat.le_refl _) _).alloc (by simp) _).alloc (by simp; omega) _⟩
theorem wpList_append_nums {P : Program} {w : World} {ops : Array Oper} {rest : List Oper} {o : Oper} {a : Act} {Q : Exit → Act → World → Prop} (hgd : o.guard = none) (s x : Operand) (t e : TypeId)
    (ho : o.op = .call { callee := .builtin .append, args := #[s, x], argTypes := #[t, t] })
    (B : Nat) (k : IntKind) (bytes : Nat) (ht : P.underlying t = some (.slice e)) (hinfo : (P.info? e).map (fun i => (i.zero, i.size, i.bytes)) = some (some (.int k 0), 1, bytes))
    (v : Value) (l m : List Nat) (ad : Addr) (n c : Nat) (hn : n = m.length) (hs : a.eval s = v) (hown : OwnN B e k v l w) (hx : a.eval x = .slice (some ad) n c) (hnews : ∀ j u, (nums k m)[j]? = some u → w.cell? (ad.add j) = some u)
    (h63 : l.length + m.length ≤ maxLen) (hbytes : (l.length + m.length) * bytes ≤ 140737488355328) (hB : B ≤ w.heap.size)
    (h : ∀ v' w', Hid (OwnN B e k v' (l ++ m) w') → Hid (Below B w w') → wpList P ops Q rest (a.put o.dst v') w') : wpList P ops Q (o :: rest) a w := by
  obtain ⟨i, hi, hz0, hz1, hz2⟩ := info_parts hinfo
  subst hn
  refine wpList_append_own_at w hgd s x _ ho B e i (.int k 0) 1 bytes ht hi hz0 hz1 hz2 rfl (by decide) v l.length (nums k l) hs hown ad m.length c (nums k m) hx (by rw [nums_len, Nat.mul_one]) hnews (nums_one k m) h63 hbytes hB ?_
  intro v' w' h2 hg _ _
  refine h v' w' ?_ ((Below.refl B w).grown hg hB (fun k hk => (World.ownsRow.lt hown k hk).1))
  show w'.ownsRow B e 1 v' (l ++ m).length (nums k (l ++ m))
  rw [List.length_append, show nums k (l ++ m) = nums k l ++ nums k m by simp [nums]]
  exact h2
theorem cells_new (w : World) (k : IntKind) (m : List Nat) (t : TypeId) : ∀ j u, (nums k m)[j]? = some u → (w.alloc (.cells (nums k m).toArray t)).cell? ((⟨w.heap.size, 0, none⟩ : Addr).add j) = some u := by
  intro j u hj
  have h : Blk w.heap.size t k m (w.alloc (.cells (nums k m).toArray t)) := heap_alloc_new w _
  rw [Addr.add_lit, Nat.zero_add, Lib.cell_of_heap h j, List.getElem?_toArray]
  exact hj
theorem cells_nums_new (w : World) (a : Array Value) (t : TypeId) (k : IntKind) (l : List Nat) (u : TypeId) : Cells w.heap.size t a ((w.alloc (.cells a t)).alloc (.cells (nums k l).toArray u)) ∧
    Blk (w.heap.size + 1) u k l ((w.alloc (.cells a t)).alloc (.cells (nums k l).toArray u)) ∧ Below w.heap.size w ((w.alloc (.cells a t)).alloc (.cells (nums k l).toArray u)) := by
  have h1 : Cells w.heap.size t a (w.alloc (.cells a t)) := heap_alloc_new w _
  have h2 : Blk (w.heap.size + 1) u k l ((w.alloc (.cells a t)).alloc (.cells (nums k l).toArray u)) := by
    have h := heap_alloc_new (w.alloc (.cells a t)) (.cells (nums k l).toArray u)
    rw [World.size_alloc] at h
    exact h
  exact ⟨h1.alloc _, h2, ((Below.refl _ w).alloc (Nat.le_refl _) _).alloc (by simp) _⟩
theorem blk_news {g : Nat} {t : TypeId} {k : IntKind} {l : List Nat} {w : World} (h : Blk g t k l w) : ∀ j u, (nums k l)[j]? = some u → w.cell? ((⟨g, 0, none⟩ : Addr).add j) = some u := by
  intro j u hj
  rw [Addr.add_lit, Nat.zero_add, Lib.cell_of_heap h j, List.getElem?_toArray]
  exact hj
theorem conv_row {B n : Nat} {cp : Nat} {ao : Option Addr} {w : World} (l : List Nat) (hn : n = l.length) (h0 : 0 < l.length) (hlt : ∀ x ∈ l, x < 256) (h : OwnN B 5 .u8 (.slice ao n cp) l w) :
    (convert 97 9 (.slice ao n cp)).run Tryz.prog w = .ok (.string ⟨(txt l).toArray⟩) w := by
  obtain ⟨g, c2, hv, _, _⟩ := h.formB h0
  have hlen : l.length = (txt l).length := (txt_len _).symm
  obtain rfl : ao = some ⟨g, 0, none⟩ := by injection hv
  have hc := World.ownsRow.cells h (g := g) rfl
  rw [hn, hlen]
  refine run_convert_bytes_back _ _ _ 5 ⟨g, 0, none⟩ _ (txt l) Tryz.underlying97 Tryz.underlying5 Tryz.underlying9 ?_
  intro j hj
  refine hc j _ ?_
  have e : nums .u8 l = (txt l).map fun b => Value.int .u8 (b.toNat : Int) := by
    rw [← byteNs_nums, byteNs_txt hlt]
  rw [e, List.getElem?_map, List.getElem?_eq_getElem hj]
  rfl
theorem results_nums_tmp {P : Program} {fn : Func} {p u : Tmp} {ty : TypeId} (h : fn.results = #[.cell p ty, .tmp u]) (tmps : Array Value) (w : World) (g : Nat) (k : IntKind) (l : List Nat) (t : TypeId) (d : TypeDesc) (v : Value)
    (hp : tmps.getD p undef = .pointer (some ⟨g, 0, none⟩)) (hv : tmps.getD u undef = v) (hg : Blk g t k l w)
    (hu : P.underlying ty = some d) (hd : (match d with | .struct _ | .array _ _ => true | _ => false) = true) (hi : (P.info? ty).map (·.size) = some l.length) :
    (results fn tmps).run P w = .ok (.tuple #[.agg (nums k l).toArray, v]) w := by
  rw [results_cell_tmp h, hp, hv]
  simp [asAddr, Result.andThen, run_loadVar_row w g t ty _ (0, 0) d hg hu hd (by rw [nums_size]; exact hi)]
end Go.Proofs.YtpfhlhcnmeodbaaGreatDoor
namespace Go.Proofs.YtpfhlhcnmeodbaaGreatDoor
open Go.RowKit
def rotr (x k : Nat) : Nat := x / 2 ^ k ||| x * 2 ^ (32 - k) % 4294967296
theorem rotr_lt (x k : Nat) (hx : x < 4294967296) : rotr x k < 4294967296 := by
  unfold rotr
  have h1 : x / 2 ^ k < 2 ^ 32 := Nat.lt_of_le_of_lt (Nat.div_le_self _ _) hx
  have h2 : x * 2 ^ (32 - k) % 4294967296 < 2 ^ 32 := Nat.mod_lt _ (by decide)
  exact Nat.or_lt_two_pow h1 h2
theorem turn_or (x k : Nat) (hx : x < 4294967296) : bits BinOp.or IntKind.u32 ((x : Int) / 2 ^ k) ((x : Int) * 2 ^ (32 - k) % 4294967296) = ((rotr x k : Nat) : Int) := by
  have h1 : x / 2 ^ k < 4294967296 := Nat.lt_of_le_of_lt (Nat.div_le_self _ _) hx
  have h2 : x * 2 ^ (32 - k) % 4294967296 < 4294967296 := Nat.mod_lt _ (by decide)
  have := u32_or_nat (x / 2 ^ k) (x * 2 ^ (32 - k) % 4294967296) h1 h2
  unfold rotr
  rw [← this]
  simp
theorem turn_any (x k : Nat) (w : World) (hx : x < 4294967296) (hk1 : 1 ≤ k) (hk : k ≤ 31) :
    Calls Tryz.prog 95 #[.int .u32 x, .int .u32 k] w fun e w' => e = .returned (.int .u32 (rotr x k)) ∧ w = w' := by
  have h := turn_or x k hx
  go_enter Tryz.func95, Tryz.ntmps95
  go_wp2_with fail
  go_ret
  exact ⟨rfl, rfl⟩
def sqOk (p y : Nat) : Bool := decide (y * y / 18446744073709551616 < p) || (decide (y * y / 18446744073709551616 = p) && decide (y * y % 18446744073709551616 = 0))
def cbLow (y : Nat) : Nat := y * y / 18446744073709551616 * y + y * y % 18446744073709551616 * y / 18446744073709551616
def cbOk (p y : Nat) : Bool := decide (cbLow y / 4294967296 < p) || (decide (cbLow y / 4294967296 = p) && (decide (cbLow y % 4294967296 = 0) && decide (y * y % 18446744073709551616 * y % 18446744073709551616 = 0)))
def bitAt (j : Nat) : Nat := 68719476736 / 2 ^ j
def rootT (p : Nat) (cube : Bool) (y : Nat) : Bool := if cube then cbOk p y else sqOk p y
def rootX (p : Nat) (cube : Bool) : Nat → Nat
  | 0 => 0
  | j + 1 => if rootT p cube (rootX p cube j + bitAt j) then rootX p cube j + bitAt j else rootX p cube j
end Go.Proofs.YtpfhlhcnmeodbaaGreatDoor
namespace Go.Proofs.YtpfhlhcnmeodbaaGreatDoor
open Go.RowKit
theorem Tryz.infoU32 : (Tryz.prog.info? 143).map (fun i => (i.zero, i.size, i.bytes)) = some (some (.int .u32 0), 1, 4) := by kernel_rfl
end Go.Proofs.YtpfhlhcnmeodbaaGreatDoor
namespace Go.Proofs.YtpfhlhcnmeodbaaGreatDoor
open Go.RowKit
def shaH : List Nat := [1779033703, 3144134277, 1013904242, 2773480762, 1359893119, 2600822924, 528734635, 1541459225]
def shaK : List Nat := [1116352408, 1899447441, 3049323471, 3921009573, 961987163, 1508970993, 2453635748, 2870763221, 3624381080, 310598401, 607225278, 1426881987, 1925078388, 2162078206, 2614888103, 3248222580, 3835390401, 4022224774, 264347078, 604807628, 770255983, 1249150122, 1555081692, 1996064986, 2554220882, 2821834349, 2952996808, 3210313671, 3336571891, 3584528711, 113926993, 338241895, 666307205, 773529912, 1294757372, 1396182291, 1695183700, 1986661051, 2177026350, 2456956037, 2730485921, 2820302411, 3259730800, 3345764771, 3516065817, 3600352804, 4094571909, 275423344, 430227734, 506948616, 659060556, 883997877, 958139571, 1322822218, 1537002063, 1747873779, 1955562222, 2024104815, 2227730452, 2361852424, 2428436474, 2756734187, 3204031479, 3329325298]
theorem shaK_len : shaK.length = 64 := by decide
theorem shaK_lt : ∀ x ∈ shaK, x < 4294967296 := by decide
set_option maxHeartbeats 1000000 in
theorem known_any (w : World) :
    Calls Tryz.prog 94 #[] w fun e w' => e = .returned (.tuple #[.slice (some ⟨w.heap.size, 0, none⟩) 8 8, .slice (some ⟨w.heap.size + 1, 0, none⟩) 64 64]) ∧
      OwnN w.heap.size 143 .u32 (.slice (some ⟨w.heap.size, 0, none⟩) 8 8) shaH w' ∧ OwnN w.heap.size 143 .u32 (.slice (some ⟨w.heap.size + 1, 0, none⟩) 64 64) shaK w' ∧ Below w.heap.size w w' := by
  go_enter Tryz.func94, Tryz.ntmps94
  go_wp2_with fail
  go_ret2
  refine ⟨rfl, ?_, ?_, ((Below.refl _ w).alloc (Nat.le_refl _) _).alloc (by simp) _⟩
  · have h := World.ownsRow_lit (base := w.heap.size) (e := 143) (size := 1) w (nums .u32 shaH).toArray 8 (Nat.le_refl _) (by unfold maxLen; omega) rfl
    exact OwnN.alloc h _
  · have h := World.ownsRow_lit (base := w.heap.size) (e := 143) (size := 1) (w.alloc (.cells (nums .u32 shaH).toArray 143)) (nums .u32 shaK).toArray 64 (by simp) (by unfold maxLen; omega) rfl
    have e : (w.alloc (.cells (nums .u32 shaH).toArray 143)).heap.size = w.heap.size + 1 := by simp
    rw [e] at h
    exact h
end Go.Proofs.YtpfhlhcnmeodbaaGreatDoor
namespace Go.Proofs.YtpfhlhcnmeodbaaGreatDoor
open Go.RowKit
def s0 (x : Nat) : Nat := rotr x 7 ^^^ rotr x 18 ^^^ x / 8
def s1 (x : Nat) : Nat := rotr x 17 ^^^ rotr x 19 ^^^ x / 1024
def S1 (x : Nat) : Nat := rotr x 6 ^^^ rotr x 11 ^^^ rotr x 25
def S0 (x : Nat) : Nat := rotr x 2 ^^^ rotr x 13 ^^^ rotr x 22
def ch (e f g : Nat) : Nat := (e &&& f) ^^^ ((4294967295 ^^^ e) &&& g)
def mj (a b c : Nat) : Nat := (a &&& b) ^^^ (a &&& c) ^^^ (b &&& c)
theorem xor_lt {a b : Nat} (ha : a < 4294967296) (hb : b < 4294967296) : a ^^^ b < 4294967296 := Nat.xor_lt_two_pow (n := 32) ha hb
theorem and_lt {a b : Nat} (hb : b < 4294967296) : a &&& b < 4294967296 := Nat.lt_of_le_of_lt Nat.and_le_right hb
def wordN (b : Nat → Nat) (i : Nat) : Nat := b (4 * i) * 16777216 + b (4 * i + 1) * 65536 + b (4 * i + 2) * 256 + b (4 * i + 3)
def nextW (l : List Nat) (i : Nat) : Nat := (l.getD (i - 16) 0 + l.getD (i - 7) 0 + s0 (l.getD (i - 15) 0) + s1 (l.getD (i - 2) 0)) % 4294967296
def wl (b : Nat → Nat) : Nat → List Nat
  | 0 => []
  | i + 1 => wl b i ++ [if i < 16 then wordN b i else nextW (wl b i) i]
theorem wl_len (b : Nat → Nat) (i : Nat) : (wl b i).length = i := by
  induction i with
  | zero => rfl
  | succ i ih => rw [wl, List.length_append, ih]; rfl
theorem wl_word {b : Nat → Nat} {i : Nat} (h : i < 16) : wl b (i + 1) = wl b i ++ [wordN b i] := by rw [wl, if_pos h]
theorem wl_next {b : Nat → Nat} {i : Nat} (h : ¬ i < 16) : wl b (i + 1) = wl b i ++ [nextW (wl b i) i] := by rw [wl, if_neg h]
theorem wordN_lt {b : Nat → Nat} (hb : ∀ j, b j < 256) (i : Nat) : wordN b i < 4294967296 := by
  have h0 := hb (4 * i)
  have h1 := hb (4 * i + 1)
  have h2 := hb (4 * i + 2)
  have h3 := hb (4 * i + 3)
  unfold wordN
  omega
theorem wl_lt {b : Nat → Nat} (hb : ∀ j, b j < 256) (i : Nat) : ∀ x ∈ wl b i, x < 4294967296 := by
  induction i with
  | zero => intro x h; cases h
  | succ i ih =>
    intro x h
    rw [wl, List.mem_append] at h
    rcases h with h | h
    · exact ih x h
    · rw [List.mem_singleton] at h
      subst h
      split
      · exact wordN_lt hb i
      · exact Nat.mod_lt _ (by decide)
structure S8 where
  (a b c d e f g h : Nat)
def S8.list (v : S8) : List Nat := [v.a, v.b, v.c, v.d, v.e, v.f, v.g, v.h]
structure S8.Ok (v : S8) : Prop where
  a : v.a < 4294967296
  b : v.b < 4294967296
  c : v.c < 4294967296
  d : v.d < 4294967296
  e : v.e < 4294967296
  f : v.f < 4294967296
  g : v.g < 4294967296
  h : v.h < 4294967296
def tN (v : S8) (k w : Nat) : Nat := (v.h + S1 v.e + ch v.e v.f v.g + k + w) % 4294967296
def uN (v : S8) : Nat := (S0 v.a + mj v.a v.b v.c) % 4294967296
def rnd (v : S8) (k w : Nat) : S8 := ⟨(tN v k w + uN v) % 4294967296, v.a, v.b, v.c, (v.d + tN v k w) % 4294967296, v.e, v.f, v.g⟩
theorem rnd_ok {v : S8} (h : v.Ok) (k w : Nat) : (rnd v k w).Ok := ⟨Nat.mod_lt _ (by decide), h.a, h.b, h.c, Nat.mod_lt _ (by decide), h.e, h.f, h.g⟩
def rl (v : S8) (W : List Nat) : Nat → S8
  | 0 => v
  | i + 1 => rnd (rl v W i) (shaK.getD i 0) (W.getD i 0)
theorem rl_ok {v : S8} (h : v.Ok) (W : List Nat) (i : Nat) : (rl v W i).Ok := by
  induction i with
  | zero => exact h
  | succ i ih => exact rnd_ok ih _ _
def addS (v u : S8) : S8 := ⟨(v.a + u.a) % 4294967296, (v.b + u.b) % 4294967296, (v.c + u.c) % 4294967296, (v.d + u.d) % 4294967296, (v.e + u.e) % 4294967296, (v.f + u.f) % 4294967296, (v.g + u.g) % 4294967296, (v.h + u.h) % 4294967296⟩
theorem addS_ok (v u : S8) : (addS v u).Ok :=
  ⟨Nat.mod_lt _ (by decide), Nat.mod_lt _ (by decide), Nat.mod_lt _ (by decide), Nat.mod_lt _ (by decide), Nat.mod_lt _ (by decide), Nat.mod_lt _ (by decide), Nat.mod_lt _ (by decide), Nat.mod_lt _ (by decide)⟩
def H0 : S8 := ⟨1779033703, 3144134277, 1013904242, 2773480762, 1359893119, 2600822924, 528734635, 1541459225⟩
theorem H0_ok : H0.Ok := ⟨by decide, by decide, by decide, by decide, by decide, by decide, by decide, by decide⟩
def block (v : S8) (b : Nat → Nat) : S8 := addS v (rl v (wl b 64) 64)
theorem t_int (a b c d e f g h k w : Nat) (he : e < 4294967296) (hf : f < 4294967296) (hg : g < 4294967296) :
    ((h : Int) + bits BinOp.xor IntKind.u32 (bits BinOp.xor IntKind.u32 ((rotr e 6 : Nat) : Int) ((rotr e 11 : Nat) : Int)) ((rotr e 25 : Nat) : Int) +
      bits BinOp.xor IntKind.u32 (bits BinOp.and IntKind.u32 (e : Int) (f : Int)) (bits BinOp.and IntKind.u32 (bits BinOp.xor IntKind.u32 IntKind.u32.max (e : Int)) (g : Int)) + (k : Int) + (w : Int)) % 4294967296 =
    ((tN ⟨a, b, c, d, e, f, g, h⟩ k w : Nat) : Int) := by
  have hm : IntKind.u32.max = ((4294967295 : Nat) : Int) := by decide
  rw [hm, u32_xor_nat _ _ (rotr_lt _ _ he) (rotr_lt _ _ he), u32_xor_nat _ _ (xor_lt (rotr_lt _ _ he) (rotr_lt _ _ he)) (rotr_lt _ _ he), u32_and_nat _ _ he hf, u32_xor_nat _ _ (by decide) he, u32_and_nat _ _ (xor_lt (by decide) he) hg, u32_xor_nat _ _ (and_lt hf) (and_lt hg)]
  unfold tN S1 ch
  simp only [Int.natCast_emod, Int.natCast_add]
  rfl
theorem u_int (a b c d e f g h : Nat) (ha : a < 4294967296) (hb : b < 4294967296) (hc : c < 4294967296) :
    (bits BinOp.xor IntKind.u32 (bits BinOp.xor IntKind.u32 ((rotr a 2 : Nat) : Int) ((rotr a 13 : Nat) : Int)) ((rotr a 22 : Nat) : Int) +
      bits BinOp.xor IntKind.u32 (bits BinOp.xor IntKind.u32 (bits BinOp.and IntKind.u32 (a : Int) (b : Int)) (bits BinOp.and IntKind.u32 (a : Int) (c : Int))) (bits BinOp.and IntKind.u32 (b : Int) (c : Int))) % 4294967296 =
    ((uN ⟨a, b, c, d, e, f, g, h⟩ : Nat) : Int) := by
  rw [u32_xor_nat _ _ (rotr_lt _ _ ha) (rotr_lt _ _ ha), u32_xor_nat _ _ (xor_lt (rotr_lt _ _ ha) (rotr_lt _ _ ha)) (rotr_lt _ _ ha), u32_and_nat _ _ ha hb, u32_and_nat _ _ ha hc, u32_and_nat _ _ hb hc, u32_xor_nat _ _ (and_lt hb) (and_lt hc), u32_xor_nat _ _ (xor_lt (and_lt hb) (and_lt hc)) (and_lt hc)]
  unfold uN S0 mj
  simp only [Int.natCast_emod, Int.natCast_add]
  rfl
theorem w_int (y16 y7 y15 y2 : Nat) (h15 : y15 < 4294967296) (h2 : y2 < 4294967296) (h3 : y15 / 8 < 4294967296) (h4 : y2 / 1024 < 4294967296) :
    ((y16 : Int) + (y7 : Int) + bits BinOp.xor IntKind.u32 (bits BinOp.xor IntKind.u32 ((rotr y15 7 : Nat) : Int) ((rotr y15 18 : Nat) : Int)) ((y15 / 8 : Nat) : Int) +
      bits BinOp.xor IntKind.u32 (bits BinOp.xor IntKind.u32 ((rotr y2 17 : Nat) : Int) ((rotr y2 19 : Nat) : Int)) ((y2 / 1024 : Nat) : Int)) % 4294967296 =
    (((y16 + y7 + s0 y15 + s1 y2) % 4294967296 : Nat) : Int) := by
  rw [u32_xor_nat _ _ (rotr_lt _ _ h15) (rotr_lt _ _ h15), u32_xor_nat _ _ (xor_lt (rotr_lt _ _ h15) (rotr_lt _ _ h15)) h3, u32_xor_nat _ _ (rotr_lt _ _ h2) (rotr_lt _ _ h2), u32_xor_nat _ _ (xor_lt (rotr_lt _ _ h2) (rotr_lt _ _ h2)) h4]
  unfold s0 s1
  simp only [Int.natCast_emod, Int.natCast_add]
  rfl
theorem tN_lt (v : S8) (k w : Nat) : tN v k w < 4294967296 := Nat.mod_lt _ (by decide)
theorem uN_lt (v : S8) : uN v < 4294967296 := Nat.mod_lt _ (by decide)
def blocks (p : List Nat) : Nat → S8
  | 0 => H0
  | n + 1 => block (blocks p n) (fun j => p.getD (64 * n + j) 0)
theorem blocks_ok (p : List Nat) (n : Nat) : (blocks p n).Ok := by
  cases n with
  | zero => exact H0_ok
  | succ n => exact addS_ok _ _
def zerosN (n : Nat) : Nat := (119 - n % 64) % 64
def l8 (N : Nat) : Nat → List Nat
  | 0 => []
  | i + 1 => l8 N i ++ [N * 256 ^ i % 18446744073709551616 / 72057594037927936]
theorem l8_len (N i : Nat) : (l8 N i).length = i := by
  induction i with
  | zero => rfl
  | succ i ih => rw [l8, List.length_append, ih]; rfl
theorem l8_lt (N i : Nat) : ∀ x ∈ l8 N i, x < 256 := by
  induction i with
  | zero => intro x h; cases h
  | succ i ih =>
    intro x h
    rw [l8, List.mem_append] at h
    rcases h with h | h
    · exact ih x h
    · rw [List.mem_singleton] at h
      have : N * 256 ^ i % 18446744073709551616 < 18446744073709551616 := Nat.mod_lt _ (by decide)
      omega
def padSh (s : List UInt8) : List Nat := byteNs s ++ [128] ++ List.replicate (zerosN s.length) 0 ++ l8 (s.length * 8) 8
theorem padSh_len (s : List UInt8) : (padSh s).length = s.length + 9 + zerosN s.length := by
  simp [padSh, byteNs_len, l8_len]
  omega
theorem padN_mod (s : List UInt8) : (padSh s).length % 64 = 0 := by
  rw [padSh_len]
  unfold zerosN
  omega
theorem padN_lt (s : List UInt8) : ∀ x ∈ padSh s, x < 256 := by
  intro x h
  simp only [padSh, List.mem_append] at h
  rcases h with ((h | h) | h) | h
  · simp only [byteNs, List.mem_map] at h
    obtain ⟨b, _, rfl⟩ := h
    exact b.toNat_lt
  · rw [List.mem_singleton] at h; omega
  · have := List.eq_of_mem_replicate h; omega
  · exact l8_lt _ _ x h
def outN (l : List Nat) : List Nat := (List.range 32).map fun i => l.getD (i / 4) 0 / 2 ^ (24 - 8 * (i % 4)) % 256
def shaN (s : List UInt8) : List Nat := outN (blocks (padSh s) ((padSh s).length / 64)).list
end Go.Proofs.YtpfhlhcnmeodbaaGreatDoor
namespace Go.Proofs.YtpfhlhcnmeodbaaGreatDoor
open Go.RowKit
def loopsOf : Code → List Code
  | .loop c => c :: loopsOf c
  | .seq a b => loopsOf a ++ loopsOf b
  | .block _ c => loopsOf c
  | .scope c => loopsOf c
  | .cond _ a b => loopsOf a ++ loopsOf b
  | _ => []
noncomputable def loopAt (f : Func) (n : Nat) : Code := ((f.body.map loopsOf).getD []).getD n .skip
def Ends (k : Nat) (R : Act → World → Prop) : Exit → Act → World → Prop
  | .exit j, a, w => j = k ∧ R a w
  | _, _, _ => False
theorem ends_exit {k : Nat} {R : Act → World → Prop} {a : Act} {w : World} (h : R a w) : Ends k R (.exit k) a w := ⟨rfl, h⟩
theorem wp_ends {P : Program} {c : Code} {k : Nat} {Q : Exit → Act → World → Prop} {a : Act} {w : World} (h : c.wp P (Ends k (fun a w => Q (.exit k) a w)) a w) : c.wp P Q a w := by
  refine wp_mono h ?_
  intro e a w he
  cases e with
  | exit j => obtain ⟨rfl, hr⟩ := he; exact hr
  | _ => exact absurd he (by simp [Ends])
def zerosL (s : List UInt8) (q : Nat) : List Nat := byteNs s ++ [128] ++ List.replicate q 0
theorem zerosL_len (s : List UInt8) (q : Nat) : (zerosL s q).length = s.length + 1 + q := by simp [zerosL, byteNs_len]; omega
theorem zerosL_next (s : List UInt8) (q : Nat) : zerosL s (q + 1) = zerosL s q ++ [0] := by simp [zerosL, List.replicate_succ']
theorem padN_split (s : List UInt8) : padSh s = zerosL s (zerosN s.length) ++ l8 (s.length * 8) 8 := rfl
structure OfSt (w : World) (bv : Value) (p : List Nat) (v : S8) (wr : World) : Prop where
  h : OwnN (w.heap.size + 1) 143 .u32 (.slice (some ⟨w.heap.size + 1, 0, none⟩) 8 8) v.list wr
  k : OwnN (w.heap.size + 1) 143 .u32 (.slice (some ⟨w.heap.size + 1 + 1, 0, none⟩) 64 64) shaK wr
  b : OwnT (w.heap.size + 3) 5 .u8 bv p wr
  r : wr.heap[w.heap.size]? = some (.cells (nums .u8 (List.replicate 32 0)).toArray 43 (0, 0))
  bel : Below w.heap.size w wr
theorem OfSt.below {w : World} {bv : Value} {p : List Nat} {v : S8} {wr w' : World} (h : OfSt w bv p v wr) (b : Below wr.heap.size wr w') : OfSt w bv p v w' :=
  ⟨h.h.below b, h.k.below b, h.b.below b, (b.block _ (lt_of_block h.r)).trans h.r, h.bel.trans (b.mono (h.bel.size))⟩
theorem turn_still (x k : Nat) (w : World) (hx : x < 4294967296) (hk1 : 1 ≤ k) (hk : k ≤ 31) :
    Calls Tryz.prog 95 #[.int .u32 x, .int .u32 k] w fun e w' => e = .returned (.int .u32 (rotr x k)) ∧ w' = w :=
  (turn_any x k w hx hk1 hk).mono fun _ _ h => ⟨h.1, h.2.symm⟩
def arrW (b : Nat → Nat) (i : Nat) : List Nat := wl b i ++ List.replicate (64 - i) 0
theorem arrW_len (b : Nat → Nat) {i : Nat} (h : i ≤ 64) : (arrW b i).length = 64 := by unfold arrW; rw [List.length_append, wl_len, List.length_replicate]; omega
theorem arrW_full (b : Nat → Nat) : arrW b 64 = wl b 64 := by unfold arrW; rw [show 64 - 64 = 0 from rfl, List.replicate_zero, List.append_nil]
theorem arrW_set (b : Nat → Nat) {i x : Nat} (h : i < 64) : (arrW b i).set i x = wl b i ++ [x] ++ List.replicate (64 - (i + 1)) 0 := by
  unfold arrW
  rw [List.set_append_right _ _ (by rw [wl_len]; exact Nat.le_refl _), wl_len, Nat.sub_self, show 64 - i = (64 - (i + 1)) + 1 by omega, List.replicate_succ, List.set_cons_zero, List.append_assoc]
  rfl
theorem arrW_word {b : Nat → Nat} {i : Nat} (h : i < 16) : (arrW b i).set i (wordN b i) = arrW b (i + 1) := by rw [arrW_set b (by omega)]; unfold arrW; rw [wl_word h]
theorem arrW_next {b : Nat → Nat} {i : Nat} (h : ¬ i < 16) (h2 : i < 64) : (arrW b i).set i (nextW (wl b i) i) = arrW b (i + 1) := by rw [arrW_set b h2]; unfold arrW; rw [wl_next h]
theorem arrW_at {b : Nat → Nat} {i : Nat} (h : i < 64) : (arrW b i).set i 0 = arrW b i := by
  rw [arrW_set b h]
  unfold arrW
  rw [show 64 - i = (64 - (i + 1)) + 1 by omega, List.replicate_succ, List.append_assoc]
  rfl
def accN (b : Nat → Nat) (i : Nat) : Nat → Nat
  | 0 => 0
  | q + 1 => 256 * accN b i q + b (4 * i + q)
theorem accN_lt {b : Nat → Nat} (hb : ∀ j, b j < 256) (i q : Nat) (hq : q ≤ 3) : accN b i q < 16777216 := by
  have h0 := hb (4 * i + 0)
  have h1 := hb (4 * i + 1)
  have h2 := hb (4 * i + 2)
  match q, hq with
  | 0, _ => show 0 < _; omega
  | 1, _ => show 256 * 0 + b (4 * i + 0) < _; omega
  | 2, _ => show 256 * (256 * 0 + b (4 * i + 0)) + b (4 * i + 1) < _; omega
  | 3, _ => show 256 * (256 * (256 * 0 + b (4 * i + 0)) + b (4 * i + 1)) + b (4 * i + 2) < _; omega
theorem accN_word (b : Nat → Nat) (i : Nat) : accN b i 4 = wordN b i := by
  show 256 * (256 * (256 * (256 * 0 + b (4 * i + 0)) + b (4 * i + 1)) + b (4 * i + 2)) + b (4 * i + 3) = _
  unfold wordN
  rw [Nat.add_zero]
  omega
def wAt (p : List Nat) (m : Nat) : Nat → Nat := fun j => p.getD (64 * m + j) 0
theorem OfSt.next {w : World} {bv : Value} {p : List Nat} {v v' : S8} {wr w' : World} (h : OfSt w bv p v wr) (b : But (w.heap.size + 1) wr w') (hh : OwnN (w.heap.size + 1) 143 .u32 (.slice (some ⟨w.heap.size + 1, 0, none⟩) 8 8) v'.list w') : OfSt w bv p v' w' := by
  have hsz := h.bel.size
  have hl := (h.h.lt _ rfl).2
  refine ⟨hh, h.k.but b (by rintro g hg rfl; simp [Value.ownBlock] at hg), h.b.but b (by intro g hg e; have := (h.b.lt g hg).1; omega), (b.block _ (lt_of_block h.r) (by omega)).trans h.r, ?_⟩
  exact But.toBelow h.bel b (by omega) hsz
theorem S8.list_len (v : S8) : v.list.length = 8 := rfl
theorem S8.Ok.lt {v : S8} (h : v.Ok) : ∀ x ∈ v.list, x < 4294967296 := by
  intro x hx
  simp only [S8.list, List.mem_cons, List.not_mem_nil, or_false] at hx
  rcases hx with rfl | rfl | rfl | rfl | rfl | rfl | rfl | rfl
  · exact h.a
  · exact h.b
  · exact h.c
  · exact h.d
  · exact h.e
  · exact h.f
  · exact h.g
  · exact h.h
def addL (a b : List Nat) : Nat → List Nat
  | 0 => a
  | q + 1 => (addL a b q).set q ((a.getD q 0 + b.getD q 0) % 4294967296)
theorem addL_len (a b : List Nat) (q : Nat) : (addL a b q).length = a.length := by
  induction q with
  | zero => rfl
  | succ q ih => rw [addL, List.length_set, ih]
theorem addL_at (a b : List Nat) (q j : Nat) (h : q ≤ j) : (addL a b q).getD j 0 = a.getD j 0 := by
  induction q with
  | zero => rfl
  | succ q ih =>
    rw [addL, List.getD_eq_getElem?_getD, List.getElem?_set_ne (by omega), ← List.getD_eq_getElem?_getD, ih (by omega)]
theorem addL_eight (h v : S8) : addL h.list v.list 8 = (addS h v).list := rfl
def outB (l : List Nat) (i : Nat) : Nat := l.getD (i / 4) 0 / 2 ^ (24 - 8 * (i % 4)) % 256
def outP (l : List Nat) (q : Nat) : List Nat := (List.range q).map (outB l) ++ List.replicate (32 - q) 0
theorem outP_full (l : List Nat) : outP l 32 = outN l := by simp [outP, outN, outB]
theorem outP_set (l : List Nat) (q : Nat) (h : q < 32) : (outP l q).set q (outB l q) = outP l (q + 1) := by
  unfold outP
  rw [List.set_append_right _ _ (by simp), List.length_map, List.length_range, Nat.sub_self, show 32 - q = (32 - (q + 1)) + 1 by omega, List.replicate_succ, List.set_cons_zero, List.range_succ, List.map_append, List.append_assoc]
  rfl
theorem outP_len (l : List Nat) (q : Nat) (h : q ≤ 32) : (outP l q).length = 32 := by simp [outP]; omega
end Go.Proofs.YtpfhlhcnmeodbaaGreatDoor
namespace Go.Proofs.YtpfhlhcnmeodbaaGreatDoor
open Go.RowKit
theorem left_or (x k : Nat) (hx : x < 4294967296) : bits BinOp.or IntKind.u32 ((x : Int) * 2 ^ (32 - k) % 4294967296) ((x : Int) / 2 ^ k) = ((rotr x k : Nat) : Int) := by
  have h1 : x / 2 ^ k < 4294967296 := Nat.lt_of_le_of_lt (Nat.div_le_self _ _) hx
  have h2 : x * 2 ^ (32 - k) % 4294967296 < 4294967296 := Nat.mod_lt _ (by decide)
  have := u32_or_nat (x * 2 ^ (32 - k) % 4294967296) (x / 2 ^ k) h2 h1
  unfold rotr
  rw [Nat.or_comm, ← this]
  simp
theorem back_31 : ∀ k : Fin 32, 1 ≤ k.val → bits BinOp.and IntKind.u64 (18446744073709551616 - (k.val : Int)) 31 = ((32 - k.val : Nat) : Int) := by decide +kernel
theorem rotl_any (x k : Nat) (w : World) (hx : x < 4294967296) (hk1 : 1 ≤ k) (hk : k ≤ 31) :
    Calls Tryz.prog 117 #[.int .u32 x, .int .i64 (-(k : Int))] w fun e w' => e = .returned (.int .u32 (rotr x k)) ∧ w = w' := by
  have h := left_or x k hx
  have hb := back_31 ⟨k, by omega⟩ hk1
  have hw : IntKind.u64.wrap (-(k : Int)) = 18446744073709551616 - (k : Int) := by rw [IntKind.wrap_u64]; omega
  simp only at hb
  obtain ⟨j, hj⟩ : ∃ j, j = 32 - k := ⟨_, rfl⟩
  rw [← hj] at hb h
  have hj2 : (32 : Int) - (j : Int) = (k : Int) := by omega
  have b1 : (j : Int) ≤ 31 := by omega
  have b2 : 1 ≤ (j : Int) := by omega
  clear hj
  go_enter Tryz.func117, Tryz.ntmps117
  go_wp2_with fail
  go_ret
  exact ⟨rfl, rfl⟩
theorem right_any (x k : Nat) (w : World) (hx : x < 4294967296) (hk1 : 1 ≤ k) (hk : k ≤ 31) :
    Calls Tryz.prog 116 #[.int .u32 x, .int .i64 k] w fun e w' => e = .returned (.int .u32 (rotr x k)) ∧ w = w' := by
  go_enter Tryz.func116, Tryz.ntmps116
  go_wp2_with fail
  refine (rotl_any x k _ hx hk1 hk).mono ?_
  rintro e w1 ⟨rfl, rfl⟩
  go_wp2_with fail
  go_ret
  exact ⟨rfl, rfl⟩
theorem right_still (x k : Nat) (w : World) (hx : x < 4294967296) (hk1 : 1 ≤ k) (hk : k ≤ 31) :
    Calls Tryz.prog 116 #[.int .u32 x, .int .i64 k] w fun e w' => e = .returned (.int .u32 (rotr x k)) ∧ w' = w :=
  (right_any x k w hx hk1 hk).mono fun _ _ h => ⟨h.1, h.2.symm⟩
theorem right_lit (x : Nat) (i : Int) (k : Nat) (w : World) (hx : x < 4294967296) (e : i = (k : Int)) (hk1 : 1 ≤ k) (hk : k ≤ 31) :
    Calls Tryz.prog 116 #[.int .u32 x, .int .i64 i] w fun e w' => e = .returned (.int .u32 (rotr x k)) ∧ w' = w := by
  subst e
  exact right_still x k w hx hk1 hk
theorem right_int (x : Nat) (i : Int) (w : World) (hx : x < 4294967296) (h1 : 1 ≤ i) (h2 : i ≤ 31) :
    Calls Tryz.prog 116 #[.int .u32 x, .int .i64 i] w fun e w' => e = .returned (.int .u32 (rotr x i.toNat)) ∧ w' = w := by
  have h := right_still x i.toNat w hx (by omega) (by omega)
  rwa [show ((i.toNat : Nat) : Int) = i by omega] at h
end Go.Proofs.YtpfhlhcnmeodbaaGreatDoor
namespace Go.Proofs.YtpfhlhcnmeodbaaGreatDoor
open Go.RowKit
theorem shaN_len (s : List UInt8) : (shaN s).length = 32 := by simp [shaN, outN]
theorem Tryz.infoId : (Tryz.prog.info? 43).map (fun i => i.size) = some 32 := by kernel_rfl
theorem Tryz.infoW : (Tryz.prog.info? 161).map (fun i => i.size) = some 64 := by kernel_rfl
theorem Tryz.infoB : (Tryz.prog.info? 153).map (fun i => i.size) = some 64 := by kernel_rfl
theorem Tryz.infoS : (Tryz.prog.info? 151).map (fun i => i.size) = some 8 := by kernel_rfl
theorem arrW_get (b : Nat → Nat) {j k : Nat} (h : j < k) (_hk : k ≤ 64) : (arrW b k).getD j 0 = (wl b k).getD j 0 := by
  unfold arrW
  rw [List.getD_eq_getElem?_getD, List.getElem?_append_left (by rw [wl_len]; exact h), ← List.getD_eq_getElem?_getD]
def KAt (w : World) : Prop := ∀ j, j < 64 → w.cell? ⟨0, j, none⟩ = some (.int .u32 ((shaK.getD j 0 : Nat) : Int))
theorem KAt.lt {w : World} (h : KAt w) : 0 < w.heap.size := block_lt_of_cell (h 0 (by decide))
theorem KAt.below {w w' : World} (h : KAt w) (hb : Below w.heap.size w w') : KAt w' := fun j hj => (hb.cell (p := ⟨0, j, none⟩) h.lt).trans (h j hj)
theorem KAt.but {g : Nat} {w w' : World} (h : KAt w) (hb : But g w w') (hne : 0 ≠ g) : KAt w' := fun j hj => (World.cell?_of_block (w := w) (a := ⟨0, j, none⟩) (hb.block _ h.lt hne)).trans (h j hj)
def bAt (l : List Nat) : Nat → Nat := fun j => l.getD j 0
theorem bAt_lt {l : List Nat} (h : ∀ x ∈ l, x < 256) (j : Nat) : bAt l j < 256 := getD_lt h (by decide) j
theorem word_or (a b c d : Nat) (ha : a < 256) (hb : b < 256) (hc : c < 256) (hd : d < 256) :
    bits BinOp.or IntKind.u32 (bits BinOp.or IntKind.u32 (bits BinOp.or IntKind.u32 ((a : Int) * 16777216) ((b : Int) * 65536)) ((c : Int) * 256)) (d : Int) = ((a * 16777216 + b * 65536 + c * 256 + d : Nat) : Int) := by
  have e1 : (a : Int) * 16777216 = ((a * 16777216 : Nat) : Int) := by omega
  have e2 : (b : Int) * 65536 = ((b * 65536 : Nat) : Int) := by omega
  have e3 : (c : Int) * 256 = ((c * 256 : Nat) : Int) := by omega
  have h1 : a * 16777216 ||| b * 65536 = a * 16777216 + b * 65536 := by
    have := Nat.two_pow_add_eq_or_of_lt (i := 24) (show b * 65536 < 2 ^ 24 by omega) a
    rw [Nat.mul_comm] at this
    exact this.symm
  have h2 : (a * 16777216 + b * 65536) ||| c * 256 = a * 16777216 + b * 65536 + c * 256 := by
    have := Nat.two_pow_add_eq_or_of_lt (i := 16) (show c * 256 < 2 ^ 16 by omega) (a * 256 + b)
    rw [show 2 ^ 16 * (a * 256 + b) = a * 16777216 + b * 65536 by omega] at this
    exact this.symm
  have h3 : (a * 16777216 + b * 65536 + c * 256) ||| d = a * 16777216 + b * 65536 + c * 256 + d := by
    have := Nat.two_pow_add_eq_or_of_lt (i := 8) (show d < 2 ^ 8 by omega) (a * 65536 + b * 256 + c)
    rw [show 2 ^ 8 * (a * 65536 + b * 256 + c) = a * 16777216 + b * 65536 + c * 256 by omega] at this
    exact this.symm
  rw [e1, e2, e3, u32_or_nat _ _ (by omega) (by omega), h1, u32_or_nat _ _ (by omega) (by omega), h2, u32_or_nat _ _ (by omega) (by omega), h3]
end Go.Proofs.YtpfhlhcnmeodbaaGreatDoor
namespace Go.Proofs.YtpfhlhcnmeodbaaGreatDoor
open Go.RowKit
def tailL (r : List UInt8) : List Nat := (byteNs (r.take 64) ++ (List.replicate 64 0).drop r.length).set r.length 128
theorem tailL_len {r : List UInt8} (h : r.length < 64) : (tailL r).length = 64 := by
  simp [tailL, byteNs_len]
  omega
theorem tailL_at {r : List UInt8} (h : r.length < 64) (j : Nat) (hj : j < 64) : (tailL r).getD j 0 = if j < r.length then (byteNs r).getD j 0 else if j = r.length then 128 else 0 := by
  unfold tailL
  rw [List.take_of_length_le (by omega), List.getD_eq_getElem?_getD, List.getElem?_set]
  by_cases h1 : r.length = j
  · subst h1
    rw [if_pos rfl, if_pos (by simp [byteNs_len]; omega), if_neg (by omega), if_pos rfl]
    rfl
  · rw [if_neg h1, if_neg (show ¬ j = r.length from fun e => h1 e.symm)]
    by_cases h2 : j < r.length
    · rw [if_pos h2, List.getElem?_append_left (by rw [byteNs_len]; exact h2), List.getD_eq_getElem?_getD]
    · rw [if_neg h2, List.getElem?_append_right (by rw [byteNs_len]; omega), List.getElem?_drop, List.getElem?_replicate]
      split <;> rfl
theorem tailL_lt (r : List UInt8) : ∀ x ∈ tailL r, x < 256 := by
  intro x hx
  rcases List.mem_or_eq_of_mem_set hx with h | rfl
  · rcases List.mem_append.1 h with h | h
    · exact byteNs_lt _ x h
    · have := List.eq_of_mem_replicate (List.mem_of_mem_drop h)
      omega
  · decide
def fillL (l : List Nat) (N : Nat) : Nat → List Nat
  | 0 => l
  | i + 1 => (fillL l N i).set (63 - i) (N / 2 ^ (8 * i) % 256)
theorem fillL_len (l : List Nat) (N i : Nat) : (fillL l N i).length = l.length := by
  induction i with
  | zero => rfl
  | succ i ih => rw [fillL, List.length_set, ih]
theorem fillL_at (l : List Nat) (N i j : Nat) (hl : l.length = 64) (hj : j < 64) (hi : i ≤ 8) : (fillL l N i).getD j 0 = if 63 - j < i then N / 2 ^ (8 * (63 - j)) % 256 else l.getD j 0 := by
  induction i with
  | zero => rfl
  | succ i ih =>
    rw [fillL, List.getD_eq_getElem?_getD, List.getElem?_set, fillL_len, hl]
    by_cases h : 63 - i = j
    · subst h
      rw [if_pos rfl, if_pos (by omega), if_pos (by omega), show 63 - (63 - i) = i by omega]
      rfl
    · rw [if_neg h, ← List.getD_eq_getElem?_getD, ih (by omega)]
      by_cases h2 : 63 - j < i
      · rw [if_pos h2, if_pos (by omega)]
      · rw [if_neg h2, if_neg (by omega)]
theorem fillL_lt {l : List Nat} (h : ∀ x ∈ l, x < 256) (N i : Nat) : ∀ x ∈ fillL l N i, x < 256 := by
  induction i with
  | zero => exact h
  | succ i ih =>
    intro x hx
    rcases List.mem_or_eq_of_mem_set hx with h | rfl
    · exact ih x h
    · exact Nat.mod_lt _ (by decide)
theorem wl_congr {b c : Nat → Nat} (h : ∀ j, j < 64 → b j = c j) : ∀ i, wl b i = wl c i := by
  intro i
  induction i with
  | zero => rfl
  | succ i ih =>
    by_cases hi : i < 16
    · rw [wl_word hi, wl_word hi, ih]
      unfold wordN
      rw [h _ (by omega), h _ (by omega), h _ (by omega), h _ (by omega)]
    · rw [wl_next hi, wl_next hi, ih]
theorem block_congr (v : S8) {b c : Nat → Nat} (h : ∀ j, j < 64 → b j = c j) : block v b = block v c := by
  show addS v (rl v (wl b 64) 64) = addS v (rl v (wl c 64) 64)
  rw [wl_congr h 64]
theorem block_ok (v : S8) (b : Nat → Nat) : (block v b).Ok := addS_ok _ _
end Go.Proofs.YtpfhlhcnmeodbaaGreatDoor
