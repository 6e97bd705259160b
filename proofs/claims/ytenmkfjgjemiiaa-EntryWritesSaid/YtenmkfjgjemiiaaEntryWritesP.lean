/-
  The law EntryWrites: for every input it answers true, and its arguments read as they did. No condition.
-/
import Derived.BigQuiet
import Derived.BigRegion
import Derived.ChangeAlike
import Derived.ChangeOld
import Derived.Deep.Cut
import Derived.Deep.CutBlock
import Derived.Deep.CutRange
import Derived.Deep.MidRow
import Derived.Deep.Quiet
import Derived.Deep.QuietTactic
import Derived.Deep.RegionWith
import Derived.Deep.Slices
import Derived.Great.BuildSlice
import Derived.Laws.AppendOwnNone
import Derived.Laws.BytesString
import Derived.Laws.CopyOwn
import Derived.Laws.DeepStrings4
import Derived.Laws.IdiomCopy
import Derived.Laws.ResultCell
import Derived.Laws.Rows
import Derived.Lib.BufferWrite
import Derived.Lib.Builder
import Derived.Lib.Hide
import Derived.Maps.AppendAt
import Derived.OpenShut
import Derived.ProofKit
import Derived.RegionTactic
import Derived.ShutString
import Derived.SizedLaws
import Derived.SliceStrings
import Derived.StillTail
import Derived.StillTailTactics
import Derived.Stop.BytesEq
import Derived.Test.YtenmkfjgjemiiaaChecked
import Derived.WalkKit
import Derived.Test.YtenmkfjgjemiiaaRows
import Derived.Test.YtenmkfjgjemiiaaJ01
import Derived.Test.YtenmkfjgjemiiaaJ02
namespace Go.Proofs.Ytenmkfjgjemiiaa
open Go.RowKit
theorem But.setCell {b : Nat} {w w' : World} (h : But b w w') (o : Nat) (v : Value) : But b w (w'.setCell ⟨b, o, none⟩ v) :=
  h.trans ⟨rfl, rfl, rfl, by simp [World.setCell], fun k _ hb => Below.heap_setCell _ _ _ _ hb⟩
theorem Try.infoString : (Try.prog.info? 9).map (fun i => (i.zero, i.size, i.bytes)) = some (some (.string ⟨#[]⟩), 1, 16) := by kernel_rfl
theorem OwnS.nil (B : Nat) (w : World) : OwnS B (.slice none 0 0) [] w := World.ownsRow_nil _ _ _ _
theorem OwnS.form {B : Nat} {v : Value} {l : List (List UInt8)} {w : World} (h : OwnS B v l w) : ∃ ao cap, v = .slice ao l.length cap := by
  rcases h.2 with ⟨hv, h0⟩ | ⟨g, cap, cur, hv, _⟩
  · exact ⟨none, 0, by rw [hv, h0]⟩
  · exact ⟨_, _, hv⟩
theorem OwnS.below {B : Nat} {v : Value} {l : List (List UInt8)} {w w' : World} (h : OwnS B v l w) (k : Below w.heap.size w w') : OwnS B v l w' := by
  refine World.ownsRow.kept (row := none) h ⟨k.os, k.tape, k.output, k.size, fun i hi _ => k.block i hi⟩ ?_
  rcases h.2 with ⟨hv, _⟩ | ⟨g, cap, cur, hv, hg, _⟩
  · exact Or.inl (by rw [hv]; rfl)
  · exact Or.inr (by rw [hv]; simp [Value.ownBlock])
end Go.Proofs.Ytenmkfjgjemiiaa
namespace Go.Proofs.Ytenmkfjgjemiiaa
open Go.RowKit
theorem below_set {B b : Nat} {w0 w : World} (h : Below B w0 w) (hb : B ≤ b) (o : Nat) (v : Value) : Below B w0 (w.setCell ⟨b, o, none⟩ v) :=
  ⟨h.os, h.tape, h.output, by simpa [World.setCell] using h.size, fun k hk => (Below.heap_setCell _ _ _ _ (by show k ≠ b; omega)).trans (h.block k hk)⟩
end Go.Proofs.Ytenmkfjgjemiiaa
namespace Go.Proofs.Ytenmkfjgjemiiaa
open Go.RowKit
theorem noE_ok : noE.Ok := ⟨zeroI_ok, zeroI_ok⟩
def entsB (L : List EntN) : List UInt8 := listB (L.map entB)
def readEs : List (List UInt8) → Option (List EntN)
  | [] => some []
  | t :: r => match readE t, readEs r with
    | some o, some l => some (o :: l)
    | _, _ => none
theorem entB_le {e : EntN} (hf : e.Fit) : (entB e).length ≤ 8000 := by
  by_cases h : GoodE e
  · rw [entB_good h]
    exact partsE_le h hf
  · rw [entB_bad h]
    decide
theorem readEs_map : ∀ {L : List EntN}, (∀ o ∈ L, o.Fit) → readEs (L.map entB) = if ∀ o ∈ L, GoodE o then some L else none
  | [], _ => by simp [readEs]
  | o :: L, h => by
    have h1 := readE_entB (h o (by simp))
    have h2 := readEs_map (L := L) (fun q hq => h q (by simp [hq]))
    rw [List.map_cons, readEs, h1, h2]
    by_cases hg : GoodE o
    · by_cases hr : ∀ q ∈ L, GoodE q
      · rw [if_pos hg, if_pos hr, if_pos (fun q hq => (List.mem_cons.1 hq).elim (fun e => e ▸ hg) (hr q))]
      · rw [if_pos hg, if_neg hr, if_neg (fun ha : ∀ q ∈ o :: L, GoodE q => hr (fun q hq => ha q (by simp [hq])))]
    · rw [if_neg hg, if_neg (fun ha : ∀ q ∈ o :: L, GoodE q => hg (ha o (by simp)))]
theorem textsE_le : ∀ {L : List EntN}, (∀ o ∈ L, o.Fit) → (textsB (L.map entB)).length ≤ 8009 * L.length
  | [], _ => by simp [textsB]
  | o :: L, h => by
    have h1 := entB_le (h o (by simp))
    have h2 := textsE_le (L := L) (fun q hq => h q (by simp [hq]))
    have h3 := textB_le9 (t := entB o) (by omega)
    rw [List.map_cons, textsB_cons, List.length_append, List.length_cons]
    omega
theorem entsB_le {L : List EntN} (h : ∀ o ∈ L, o.Fit) (hl : L.length ≤ 10) : (entsB L).length ≤ 90000 := by
  have h1 := textsE_le h
  have h2 := numB_len9 (n := L.length) (by omega)
  rw [entsB, listB_length, List.length_map]
  omega
end Go.Proofs.Ytenmkfjgjemiiaa
namespace Go.Proofs.Ytenmkfjgjemiiaa
open Go.RowKit
section
variable {P : Program} {ops : Array Oper} {md : Region.Mode}
def left (seen : Array Bool) (n : Nat) : Nat := (List.range n).countP fun i => !seen.getD i false
theorem left_zero {seen : Array Bool} {n : Nat} (h : left seen n = 0) (i : Nat) (hi : i < n) : seen.getD i false = true := by
  have := List.countP_eq_zero.1 h i (List.mem_range.2 hi)
  simpa using this
theorem left_set {seen : Array Bool} {i : Nat} (hs : i < seen.size) (hu : seen.getD i false = false) : ∀ n, i < n → left (seen.setIfInBounds i true) n + 1 = left seen n := by
  intro n
  induction n with
  | zero => intro h; omega
  | succ n ih =>
    intro h
    simp only [left, List.range_succ, List.countP_append, List.countP_cons, List.countP_nil] at ih ⊢
    by_cases e : i = n
    · subst e
      have h1 : (seen.setIfInBounds i true).getD i false = true := by simp [hs]
      have h2 : (List.range i).countP (fun j => !(seen.setIfInBounds i true).getD j false) = (List.range i).countP (fun j => !seen.getD j false) := by
        refine List.countP_congr fun j hj => ?_
        rw [getD_set_ne false (by have := List.mem_range.1 hj; omega)]
      rw [h1, h2, hu]
      simp
    · have h1 : (seen.setIfInBounds i true).getD n false = seen.getD n false := getD_set_ne false e
      rw [h1]
      have := ih (by omega)
      omega
theorem left_least {seen : Array Bool} : ∀ {n : Nat}, left seen n ≠ 0 → ∃ k, k < n ∧ seen.getD k false = false ∧ ∀ j, j < k → seen.getD j false = true := by
  intro n
  induction n with
  | zero => intro h; exact absurd rfl h
  | succ n ih =>
    intro h
    by_cases h0 : left seen n = 0
    · refine ⟨n, by omega, ?_, left_zero h0⟩
      simp only [left, List.range_succ, List.countP_append, List.countP_cons, List.countP_nil] at h h0
      cases hs : seen.getD n false with
      | false => rfl
      | true => exact absurd h0 (by rw [hs] at h; simpa using h)
    · obtain ⟨k, hk, h1, h2⟩ := ih h0
      exact ⟨k, by omega, h1, h2⟩
theorem lexHead_spec {g : Nat} (f : Nat) : ∀ (k : Nat) (seen : Array Bool), seen.size = ops.size → (∀ j, seen.getD j false = decide (j < k)) → k + f ≤ ops.size → Region.lexHead md ops g f k seen = true →
    (∀ j, k ≤ j → j < k + f → ∃ o, ops[j]? = some o ∧ ∀ e ∈ o.after, Region.binds md e = true → e.on < j) ∧ ∃ full : Array Bool, full.size = ops.size ∧ (∀ j, full.getD j false = decide (j < k + f)) ∧ Region.seqB md ops g (k + f) full = true := by
  induction f with
  | zero => intro k seen hz hs _ hB; exact ⟨fun j h1 h2 => by omega, seen, hz, hs, hB⟩
  | succ f ih =>
    intro k seen hz hs hf hB
    simp only [Region.lexHead, Bool.and_eq_true] at hB
    have hkr : k ∈ Region.ready md ops seen := by simpa using hB.1.1
    obtain ⟨_, o, ho, hall⟩ := mem_ready.1 hkr
    obtain ⟨h1, full, h2, h3, h4⟩ := ih (k + 1) (seen.setIfInBounds k true) (by simpa using hz) (fun j => by
      by_cases e : k = j
      · subst e
        have : k < seen.size := by omega
        simp [this]
      · rw [getD_set_ne false e, hs j]
        exact decide_eq_decide.2 (by omega)) (by omega) hB.2
    refine ⟨fun j hj1 hj2 => ?_, full, h2, fun j => by rw [h3 j]; exact decide_eq_decide.2 (by omega), by rw [show k + (f + 1) = k + 1 + f by omega]; exact h4⟩
    by_cases e : j = k
    · subst e
      refine ⟨o, ho, fun x hx hb => ?_⟩
      have := hall x hx hb
      rw [hs] at this
      simpa using this
    · exact h1 j (by omega) (by omega)
theorem wp_region_inv {id : Nat} {Q : Exit → Act → World → Prop} {a : Act} {w : World} {l : List Oper} (n : Nat) (Inv : Array Bool → Act → World → Prop) (hm : P.follows .mixedOrders = true) (hB : Region.lexTailB .any l.toArray n = true)
    (h0 : Inv (Array.replicate l.toArray.size false) a w.drew)
    (hstep : ∀ seen a w i, i < n → i ∈ Region.ready .any l.toArray seen → i < seen.size → Inv seen a w → wpOp P l.toArray Q i (fun a' w' => Inv (seen.setIfInBounds i true) a' w') a w)
    (hend : ∀ seen a w, (∀ i, i < n → seen.getD i false = true) → Inv seen a w → wpList P l.toArray Q (l.drop n) a w) : (Code.region id l.toArray true).wp P Q a w := by
  simp only [Region.lexTailB, Bool.and_eq_true, decide_eq_true_eq] at hB
  obtain ⟨⟨⟨⟨hns, hn⟩, hsink⟩, hchain⟩, hlex⟩ := hB
  have hsz : l.toArray.size = l.length := by simp
  have hd : (l.drop n).length = l.toArray.size - n := by rw [List.length_drop, hsz]
  obtain ⟨hdeps, full, hfz, hfull, hseq⟩ := lexHead_spec (md := .any) (ops := l.toArray) n 0 _ Array.size_replicate (fun j => by rw [getD_replicate_false]; simp) (by omega) hlex
  rw [Nat.zero_add] at hseq
  have key : ∀ r seen a w, HeadInv .any l.toArray n seen → left seen n = r → Inv seen a w → wpAny P .any l.toArray Q (r + (l.toArray.size - n)) seen a w := by
    intro r
    induction r with
    | zero =>
      intro seen a w inv hr hI
      have hall := left_zero hr
      have hsame : seen = full := by
        refine Array.ext (by rw [inv.size, hfz]) fun j h1 h2 => ?_
        have e1 := hfull j
        have e2 : seen.getD j false = decide (j < 0 + n) := by
          by_cases hj : j < n
          · rw [hall j hj]; simp [hj]
          · have := getD_both (inv.tail j (by omega) (by rw [← inv.size]; exact h1))
            rw [this]; simp [hj]
        rw [← e1] at e2
        simpa [h1, h2] using e2
      have := wpAny_of_seq (md := .any) (Q' := Q) (l.drop n) n seen a w (fun j => by simp [List.getElem?_drop]) (by rw [hd, hsame]; exact hseq) (hend seen a w hall hI)
      rw [hd] at this
      rw [Nat.zero_add]
      exact this
    | succ r ih =>
      intro seen a w inv hr hI
      rw [Nat.add_right_comm]
      obtain ⟨k, hk, hku, hkl⟩ := left_least (seen := seen) (n := n) (by omega)
      have hks : k < seen.size := by rw [inv.size]; omega
      have hkr : k ∈ Region.ready .any l.toArray seen := by
        obtain ⟨o, ho, hb⟩ := hdeps k (by omega) (by omega)
        exact mem_ready.2 ⟨getD_in hks hku, o, ho, fun e he hbe => hkl _ (hb e he hbe)⟩
      refine ⟨fun e => (by rw [e] at hkr; cases hkr), fun i hi => ?_⟩
      have hin : i < n := Nat.lt_of_not_le fun h => tail_waits hsink hchain hn inv _ k rfl hk (getD_in hks hku) i h hi
      have his : i < seen.size := by rw [inv.size]; omega
      refine wpOp_mono (fun a' w' hI' => ih _ a' w' (inv.set hi hin) ?_ hI') (hstep seen a w i hin hi his hI)
      have := left_set his (getD_both (mem_ready.1 hi).1) n hin
      omega
  have inv0 : HeadInv .any l.toArray n (Array.replicate l.toArray.size false) :=
    ⟨Array.size_replicate, fun j p _ hs => (by rw [getD_replicate_false] at hs; cases hs), fun t _ ht' => getD_in (by rw [Array.size_replicate]; exact ht') (getD_replicate_false _ _)⟩
  have H := key n _ a w.drew inv0 (by
    have : ∀ m, left (Array.replicate l.toArray.size false) m = m := fun m => by
      unfold left
      rw [List.countP_eq_length.2 (fun i _ => by rw [getD_replicate_false]; rfl), List.length_range]
    exact this n) h0
  rw [show n + (l.toArray.size - n) = l.toArray.size by omega] at H
  exact wp_region_any hm H
end
end Go.Proofs.Ytenmkfjgjemiiaa
namespace Go.Proofs.Ytenmkfjgjemiiaa
open Go.RowKit
section
variable {P : Program}
def putAll : List Oper → (Nat → Value) → Act → Act
  | [], _, a => a
  | o :: l, V, a => putAll l (fun i => V (i + 1)) (a.put o.dst (V 0))
def apartB : List Oper → Bool
  | [] => true
  | o :: l => l.all (fun p => !(o.dst == p.dst)) && apartB l
def upd (V : Nat → Value) (i : Nat) (v : Value) : Nat → Value := fun j => if j = i then v else V j
theorem upd_same (V : Nat → Value) (i : Nat) (v : Value) : upd V i v i = v := by simp [upd]
theorem upd_ne (V : Nat → Value) {i j : Nat} (v : Value) (h : j ≠ i) : upd V i v j = V j := by simp [upd, h]
theorem put_put (a : Act) (d : Option Tmp) (u v : Value) : (a.put d u).put d v = a.put d v := by
  cases d with
  | none => rfl
  | some d => simp [Act.put]
theorem putAll_put (l : List Oper) (o : Oper) (v : Value) (h : l.all (fun p => !(o.dst == p.dst)) = true) : ∀ (V : Nat → Value) (a : Act), putAll l V (a.put o.dst v) = (putAll l V a).put o.dst v := by
  induction l with
  | nil => intro V a; rfl
  | cons p l ih =>
    intro V a
    simp only [List.all_cons, Bool.and_eq_true] at h
    rw [putAll, putAll, Act.put_comm a v (V 0) (fun d hd e => by rw [hd, e] at h; simp at h), ih h.2]
theorem putAll_upd (l : List Oper) (h : apartB l = true) : ∀ (i : Nat) (o : Oper) (v : Value) (V : Nat → Value) (a : Act), l[i]? = some o → putAll l (upd V i v) a = (putAll l V a).put o.dst v := by
  induction l with
  | nil => intro i o v V a ho; simp at ho
  | cons p l ih =>
    intro i o v V a ho
    simp only [apartB, Bool.and_eq_true] at h
    cases i with
    | zero =>
      obtain rfl : p = o := by simpa using ho
      rw [putAll, putAll, ← putAll_put l p v h.1, put_put]
      rfl
    | succ i =>
      rw [putAll, putAll, ← ih h.2 i o v (fun j => V (j + 1)) _ (by simpa using ho)]
      congr 1
      funext j
      simp [upd]
structure FreeStep (P : Program) (ops : Array Oper) (Q : Exit → Act → World → Prop) (F : (Nat → Value) → Act) (Inv : (Nat → Bool) → (Nat → Value) → World → Prop) (o : Oper) (i : Nat) : Prop where
  go : ∀ s V w, (∀ e ∈ o.after, Region.binds .any e = true → s e.on = true) → s i = false → Inv s V w →
    ∀ K : Act → World → Prop, (∀ v w', Inv (fun j => s j || j == i) (upd V i v) w' → K ((F V).put o.dst v) w') →
      if Region.wanted o (yielded ops (F V).tmps) = true then Oper.wp P o (F V) w K Q else K ((F V).put o.dst undef) w
def FreeSteps (P : Program) (ops : Array Oper) (Q : Exit → Act → World → Prop) (F : (Nat → Value) → Act) (Inv : (Nat → Bool) → (Nat → Value) → World → Prop) : List Oper → Nat → Prop
  | [], _ => True
  | o :: l, i => FreeStep P ops Q F Inv o i ∧ FreeSteps P ops Q F Inv l (i + 1)
theorem FreeSteps.nil {ops : Array Oper} {Q : Exit → Act → World → Prop} {F : (Nat → Value) → Act} {Inv : (Nat → Bool) → (Nat → Value) → World → Prop} {i : Nat} : FreeSteps P ops Q F Inv [] i := trivial
theorem FreeSteps.cons {ops : Array Oper} {Q : Exit → Act → World → Prop} {F : (Nat → Value) → Act} {Inv : (Nat → Bool) → (Nat → Value) → World → Prop} {o : Oper} {l : List Oper} {i : Nat} (h : FreeStep P ops Q F Inv o i) (hs : FreeSteps P ops Q F Inv l (i + 1)) : FreeSteps P ops Q F Inv (o :: l) i := ⟨h, hs⟩
theorem FreeStep.fresh {ops : Array Oper} {Q : Exit → Act → World → Prop} {F : (Nat → Value) → Act} {Inv : (Nat → Bool) → (Nat → Value) → World → Prop} {o : Oper} {i : Nat} (hg : o.guard = none)
    (h : ∀ s V w, (∀ e ∈ o.after, Region.binds .any e = true → s e.on = true) → s i = false → Inv s V w → ∀ K : Act → World → Prop, (∀ v w', Inv (fun j => s j || j == i) (upd V i v) w' → K ((F V).put o.dst v) w') → OpWp P o (F V) w K Q) : FreeStep P ops Q F Inv o i := ⟨fun s V w hr hu hI K hK => by
  have hw : Region.wanted o (yielded ops (F V).tmps) = true := by simp [Region.wanted, hg]
  rw [if_pos hw]
  exact (h s V w hr hu hI K hK).out⟩
theorem FreeSteps.get {ops : Array Oper} {Q : Exit → Act → World → Prop} {F : (Nat → Value) → Act} {Inv : (Nat → Bool) → (Nat → Value) → World → Prop} (l : List Oper) : ∀ (i k : Nat) (o : Oper), FreeSteps P ops Q F Inv l k → l[i]? = some o → FreeStep P ops Q F Inv o (k + i) := by
  induction l with
  | nil => intro i k o _ ho; simp at ho
  | cons p l ih =>
    intro i k o h ho
    cases i with
    | zero =>
      obtain rfl : p = o := by simpa using ho
      exact h.1
    | succ i =>
      have := ih i (k + 1) o h.2 (by simpa using ho)
      rwa [show k + 1 + i = k + (i + 1) by omega] at this
theorem wp_region_free {id : Nat} {Q : Exit → Act → World → Prop} {a : Act} {w : World} {l : List Oper} (n : Nat) (Inv : (Nat → Bool) → (Nat → Value) → World → Prop) (V0 : Nat → Value) (hm : P.follows .mixedOrders = true) (hB : Region.lexTailB .any l.toArray n = true) (hd : apartB (l.take n) = true)
    (ha : putAll (l.take n) V0 a = a) (h0 : Inv (fun _ => false) V0 w.drew)
    (hstep : FreeSteps P l.toArray Q (fun V => putAll (l.take n) V a) Inv (l.take n) 0)
    (hend : ∀ s V w, (∀ i, i < n → s i = true) → Inv s V w → wpList P l.toArray Q (l.drop n) (putAll (l.take n) V a) w) : (Code.region id l.toArray true).wp P Q a w := by
  have hn : n < l.length := by
    simp only [Region.lexTailB, Bool.and_eq_true, decide_eq_true_eq] at hB
    simpa using hB.1.1.1.2
  refine wp_region_inv n (fun seen a' w' => ∃ V, a' = putAll (l.take n) V a ∧ Inv (fun j => seen.getD j false) V w') hm hB ⟨V0, ha.symm, ?_⟩ ?_ ?_
  · rw [show (fun j => (Array.replicate l.toArray.size false).getD j false) = fun _ => false from funext fun j => getD_replicate_false _ _]
    exact h0
  · rintro seen a' w' i hi hr hs ⟨V, rfl, hI⟩
    obtain ⟨hu, o, ho, hall⟩ := mem_ready.1 hr
    have ho' : (l.take n)[i]? = some o := by
      rw [List.getElem?_take, if_pos hi]
      simpa using ho
    have hF := FreeSteps.get (l.take n) i 0 o hstep ho'
    rw [Nat.zero_add] at hF
    have e : (fun j => (seen.setIfInBounds i true).getD j false) = fun j => seen.getD j false || j == i := funext fun j => by
      by_cases hj : i = j
      · subst hj; simp [hs]
      · rw [getD_set_ne false hj]
        have : (j == i) = false := by simp; omega
        rw [this, Bool.or_false]
    have hF2 := hF.go _ V w' hall (getD_both hu) hI (fun a'' w'' => ∃ V, a'' = putAll (l.take n) V a ∧ Inv (fun j => (seen.setIfInBounds i true).getD j false) V w'') (fun v w'' h => ⟨upd V i v, (putAll_upd _ hd i o v V a ho').symm, by rw [e]; exact h⟩)
    unfold wpOp
    simp only [ho]
    split
    · rename_i hw
      rw [if_pos hw] at hF2
      exact .inl hF2
    · rename_i hw
      rw [if_neg hw] at hF2
      exact hF2
  · rintro seen a' w' hall ⟨V, rfl, hI⟩
    exact hend _ V w' (fun i hi => hall i hi) hI
theorem op_move {o : Oper} {a : Act} {w : World} {K : Act → World → Prop} {Q : Exit → Act → World → Prop} (x : Operand) (ho : o.op = .move x) (v : Value) (hx : a.eval x = v) (h : K (a.put o.dst v) w) : OpWp P o a w K Q := by
  refine ⟨?_⟩
  unfold Oper.wp execOp
  simp only [ho, hx, Sem.run_pure]
  exact h
theorem op_call {o : Oper} {a : Act} {w : World} {K : Act → World → Prop} {Q : Exit → Act → World → Prop} {f : FuncId} {fn : Func} (hf : P.funcs[f]? = some fn) (hname : (fn.name == "runtime.NumGoroutine") = false) (hb : fn.body.isNone = false)
    {args : Array Operand} {ts : Array TypeId} (ho : o.op = .call { callee := .value (.func f), args := args, argTypes := ts }) (vs : List Value) (hv : args.toList.map a.eval = vs) {C : Ending → World → Prop}
    (hc : Calls P f vs.toArray w C) (h : ∀ e w', C e w' → ∃ v, e = .returned v ∧ K (a.put o.dst v) w') : OpWp P o a w K Q := by
  have hr : (execOp a.eval o).run P w = .ok (.enter f vs.toArray) w := by
    obtain ⟨dst, op, ty, pos, after, guard⟩ := o
    simp only at ho
    subst ho
    rw [execOp_call_go, show args.map a.eval = vs.toArray by rw [← hv, ← Array.toList_map, Array.toArray_toList], Array.append_empty, Array.empty_append]
    have h1 : ¬ fn.name = "runtime.NumGoroutine" := by simpa using hname
    have h2 : ¬ fn.body = none := by intro e; rw [e] at hb; cases hb
    simp [callFunc, Sem.run_bind, hf, h1, h2, go_sem]
  refine ⟨?_⟩
  unfold Oper.wp
  rw [hr, Oper.upon_enter]
  refine hc.mono fun e w' he => ?_
  obtain ⟨v, rfl, hk⟩ := h e w' he
  exact hk
theorem seen_ne {s : Nat → Bool} {i j : Nat} (hne : j ≠ i) (h : (s j || j == i) = true) : s j = true := by
  have : (j == i) = false := by simpa using hne
  rwa [this, Bool.or_false] at h
end
end Go.Proofs.Ytenmkfjgjemiiaa
namespace Go.Proofs.Ytenmkfjgjemiiaa
open Go.RowKit Go.ChangeShapes Go.WideShapes
theorem trod_bytesI {H : Type} {enc : TypeId × Value → H} {P : Program} {W : World} {t e : TypeId} {n base fuel : Nat} {sp : Nat → Bool} {held : Bool} {cs : List Value} {x : DataW H × List MemPlace}
    (hu : P.underlying t = some (.array n e)) (he : P.underlying e = some (.int .u8)) (hone : P.cellsOf e = 1) (hsz : P.cellsOf t = n) (h : DataW.trod enc P W base sp held fuel t cs = some x) :
    ∃ l : List Nat, cs = nums .u8 l ∧ l.length = n ∧ ∀ y ∈ l, y < 256 := by
  obtain ⟨xs, m, _, _, hcl, hxl, hat⟩ := DataW.trod_array hu h
  rw [hsz] at hcl
  have key : ∀ i, i < n → ∃ z : Int, cs[i]? = some (.int .u8 z) ∧ 0 ≤ z ∧ z ≤ 255 := by
    intro i hi
    have h1 := hat i hi
    rw [hone, Nat.mul_one, List.getElem?_eq_getElem (by omega)] at h1
    obtain ⟨z, hz, _, hw⟩ := DataW.trod_int he h1
    refine ⟨z, ?_, ?_⟩
    · have := congrArg (fun l => l[0]?) hz
      simpa [List.getElem?_drop, List.getElem?_take] using this
    · simp only [Lit.wf, Bool.and_eq_true, decide_eq_true_eq] at hw
      exact ⟨hw.1, hw.2⟩
  refine ⟨cs.map fun v => (intOf v).toNat, ?_, by simp [hcl], ?_⟩
  · refine List.ext_getElem? fun i => ?_
    rw [nums, List.getElem?_map, List.getElem?_map]
    rcases Nat.lt_or_ge i n with hi | hi
    · obtain ⟨z, h1, h2, h3⟩ := key i hi
      rw [h1]
      simp [intOf]
      omega
    · rw [List.getElem?_eq_none (by omega)]
      rfl
  · intro y hy
    obtain ⟨v, hv, rfl⟩ := List.mem_map.1 hy
    obtain ⟨i, hi, rfl⟩ := List.mem_iff_getElem.1 hv
    obtain ⟨z, h1, h2, h3⟩ := key i (by omega)
    rw [List.getElem?_eq_getElem hi] at h1
    obtain h1 := Option.some.inj h1
    rw [h1]
    simp [intOf]
    omega
end Go.Proofs.Ytenmkfjgjemiiaa
namespace Go.Proofs.Ytenmkfjgjemiiaa
open Go.RowKit
structure Only (O : Nat → Prop) (w w' : World) : Prop where
  os : w'.os = w.os
  tape : w'.tape = w.tape
  output : w'.output = w.output
  size : w.heap.size ≤ w'.heap.size
  block : ∀ k, k < w.heap.size → ¬ O k → w'.heap[k]? = w.heap[k]?
theorem Only.refl (O : Nat → Prop) (w : World) : Only O w w := ⟨rfl, rfl, rfl, Nat.le_refl _, fun _ _ _ => rfl⟩
theorem Only.below {O : Nat → Prop} {w w1 w2 : World} (h : Only O w w1) (k : Below w1.heap.size w1 w2) : Only O w w2 :=
  ⟨k.os.trans h.os, k.tape.trans h.tape, k.output.trans h.output, Nat.le_trans h.size k.size, fun i hi hO => (k.block i (Nat.lt_of_lt_of_le hi h.size)).trans (h.block i hi hO)⟩
theorem Only.of {O : Nat → Prop} {w w' : World} (h : Below w.heap.size w w') : Only O w w' := (Only.refl O w).below h
end Go.Proofs.Ytenmkfjgjemiiaa
namespace Go.Proofs.Ytenmkfjgjemiiaa
open Go.RowKit
section
variable {P : Program} {o : Oper} {a : Act} {w : World} {K : Act → World → Prop} {Q : Exit → Act → World → Prop}
theorem op_fieldAt (ty : TypeId) (x : Operand) (k : Nat) (ho : o.op = .fieldAddr ty x k) (p q : Addr) (hx : a.eval x = .pointer (some p)) (hr : ∀ w, (Instr.fieldAt ty (.pointer (some p)) k).run P w = .ok (.pointer (some q)) w)
    (h : K (a.put o.dst (.pointer (some q))) w) : OpWp P o a w K Q := by
  refine ⟨?_⟩
  unfold Oper.wp execOp
  simp only [ho, hx, Sem.run_bind, Sem.run_pure, hr, Result.andThen_ok]
  exact h
theorem op_load_cell (ty : TypeId) (x : Operand) (ho : o.op = .load ty x) (p : Addr) (v : Value) (hx : a.eval x = .pointer (some p)) (hc : w.cell? p = some v) (hi : ∀ w, (isAgg ty).run P w = .ok false w) (h : K (a.put o.dst v) w) : OpWp P o a w K Q := by
  refine ⟨?_⟩
  unfold Oper.wp execOp
  simp only [ho, hx, Instr.loadAt, Instr.sureAddr, Sem.run_bind, Sem.run_pure, Result.andThen_ok, run_loadVar_cell w ty p v hc hi]
  exact h
theorem op_conv (t u : TypeId) (x : Operand) (ho : o.op = .convert t u x) (v r : Value) (hx : a.eval x = v) (hC : (convert t u v).run P w = .ok r w) (h : K (a.put o.dst r) w) : OpWp P o a w K Q := by
  refine ⟨?_⟩
  unfold Oper.wp execOp
  simp only [ho, hx, Sem.run_bind, hC, Result.andThen_ok, Sem.run_pure]
  exact h
end
end Go.Proofs.Ytenmkfjgjemiiaa
namespace Go.Proofs.Ytenmkfjgjemiiaa
open Go.RowKit
section
variable {α : Type}
def Wide (K : Nat) (L : List (List α)) : Prop := ∀ x ∈ L, x.length = K
theorem Wide.getD {K : Nat} {L : List (List α)} (h : Wide K L) {i : Nat} (hi : i < L.length) : (L.getD i []).length = K := by
  rw [List.getD_eq_getElem?_getD, List.getElem?_eq_getElem hi]
  exact h _ (List.getElem_mem hi)
theorem Wide.set {K : Nat} {L : List (List α)} (h : Wide K L) (i : Nat) {x : List α} (hx : x.length = K) : Wide K (L.set i x) := fun z hz => by
  rcases List.mem_or_eq_of_mem_set hz with hz | rfl
  · exact h z hz
  · exact hx
theorem flat_len {K : Nat} {L : List (List α)} (h : Wide K L) : L.flatten.length = L.length * K := by
  induction L with
  | nil => simp
  | cons x L ih =>
    have h1 := h x (by simp)
    have h2 := ih fun y hy => h y (by simp [hy])
    rw [List.flatten_cons, List.length_append, h1, h2, List.length_cons, Nat.succ_mul]
    omega
theorem flat_get {K : Nat} {L : List (List α)} (h : Wide K L) : ∀ {i j : Nat}, i < L.length → j < K → L.flatten[K * i + j]? = (L.getD i [])[j]? := by
  induction L with
  | nil => intro i j hi _; cases hi
  | cons x L ih =>
    intro i j hi hj
    have h1 := h x (by simp)
    rw [List.flatten_cons]
    cases i with
    | zero => rw [Nat.mul_zero, Nat.zero_add, List.getElem?_append_left (by omega)]; rfl
    | succ i =>
      have e : K * (i + 1) + j = x.length + (K * i + j) := by rw [h1, Nat.mul_succ]; omega
      rw [e, List.getElem?_append_right (by omega), Nat.add_sub_cancel_left]
      exact ih (fun y hy => h y (by simp [hy])) (by simpa using hi) hj
end
def layV (xs : List Value) : Nat → List Value → List Value
  | _, [] => xs
  | o, v :: r => layV (xs.set o v) (o + 1) r
theorem layV_get : ∀ (vs : List Value) (xs : List Value) (o j : Nat), o + vs.length ≤ xs.length → (layV xs o vs)[j]? = if o ≤ j ∧ j < o + vs.length then vs[j - o]? else xs[j]?
  | [], xs, o, j, _ => by rw [layV, if_neg (by simp only [List.length_nil]; omega)]
  | v :: r, xs, o, j, h => by
    simp only [List.length_cons] at h ⊢
    rw [layV, layV_get r (xs.set o v) (o + 1) j (by rw [List.length_set]; omega)]
    by_cases h1 : o + 1 ≤ j ∧ j < o + 1 + r.length
    · rw [if_pos h1, if_pos (by omega), show j - o = (j - (o + 1)) + 1 by omega, List.getElem?_cons_succ]
    · rw [if_neg h1]
      by_cases h2 : j = o
      · subst h2
        rw [if_pos (by omega), Nat.sub_self, List.getElem?_set_self (by omega)]
        rfl
      · rw [if_neg (by omega), List.getElem?_set_ne (by omega)]
theorem block_of {K q n : Nat} (hK : 0 < K) : ∃ i m, q = K * i + m ∧ m < K ∧ (q < n * K → i < n) := by
  refine ⟨q / K, q % K, (Nat.div_add_mod q K).symm, Nat.mod_lt _ hK, fun h => ?_⟩
  exact (Nat.div_lt_iff_lt_mul hK).2 h
theorem flat_set {K : Nat} (hK : 0 < K) {L : List (List Value)} (hL : Wide K L) {i : Nat} (hi : i < L.length) {x : List Value} (hx : x.length = K) : (L.set i x).flatten = layV L.flatten (K * i) x := by
  have hfl := flat_len hL
  have hS := hL.set i hx
  have hin : K * i + K ≤ L.length * K := by
    have : K * (i + 1) ≤ K * L.length := Nat.mul_le_mul_left K hi
    rw [Nat.mul_succ] at this
    rw [Nat.mul_comm L.length]
    exact this
  refine List.ext_getElem? fun q => ?_
  rw [layV_get _ _ _ _ (by rw [hx, hfl]; exact hin), hx]
  obtain ⟨r, m, rfl, hm, hr⟩ := block_of (K := K) (q := q) (n := L.length) hK
  by_cases hrl : r < L.length
  · rw [flat_get hS (by rw [List.length_set]; exact hrl) hm, flat_get hL hrl hm]
    by_cases hq : r = i
    · subst hq
      rw [if_pos ⟨by omega, by omega⟩, Nat.add_sub_cancel_left]
      simp [List.getD_eq_getElem?_getD, List.getElem?_set_self hi]
    · rw [if_neg (by
        intro h
        rcases Nat.lt_or_gt_of_ne hq with h1 | h1
        · have := Nat.mul_le_mul_left K h1
          rw [Nat.succ_eq_add_one, Nat.mul_succ] at this
          omega
        · have := Nat.mul_le_mul_left K h1
          rw [Nat.succ_eq_add_one, Nat.mul_succ] at this
          omega)]
      simp [List.getD_eq_getElem?_getD, List.getElem?_set_ne (Ne.symm hq)]
  · have hge : L.length * K ≤ K * r + m := by
      have := Nat.mul_le_mul_left K (Nat.le_of_not_lt hrl)
      rw [Nat.mul_comm L.length]
      omega
    have h1 : (L.set i x).flatten.length ≤ K * r + m := by rw [flat_len hS, List.length_set]; exact hge
    have h2 : L.flatten.length ≤ K * r + m := by rw [hfl]; exact hge
    rw [if_neg (by omega), List.getElem?_eq_none h1, List.getElem?_eq_none h2]
theorem ownsRow_layV {B g n c size : Nat} {e : TypeId} : ∀ (vs xs : List Value) (o : Nat) (w : World), w.ownsRow B e size (.slice (some ⟨g, 0, none⟩) n c) n xs → (w.setCells g o vs).ownsRow B e size (.slice (some ⟨g, 0, none⟩) n c) n (layV xs o vs)
  | [], _, _, _, h => h
  | v :: r, _, o, _, h => ownsRow_layV r _ (o + 1) _ (World.ownsRow.stored h o v).1
theorem But.cells {b : Nat} {w : World} : ∀ (vs : List Value) (o : Nat) (w' : World), But b w w' → But b w (w'.setCells b o vs)
  | [], _, _, h => h
  | v :: r, o, _, h => But.cells r (o + 1) _ (h.setCell o v)
def RowK (K : Nat) (e : TypeId) (v : Value) (L : List (List Value)) (w : World) : Prop := w.ownsRow 0 e K v L.length L.flatten
section
variable {K : Nat} {e : TypeId} {v : Value} {L : List (List Value)} {w w' : World}
theorem RowK.form (h : RowK K e v L w) : ∃ ao cap, v = .slice ao L.length cap := by
  rcases h.2 with ⟨h1, h2⟩ | ⟨g, cap, _, h1, _⟩
  · exact ⟨_, _, by rw [h1, h2]⟩
  · exact ⟨_, _, h1⟩
theorem RowK.formB (h : RowK K e v L w) (h0 : 0 < L.length) : ∃ g cap, v = .slice (some ⟨g, 0, none⟩) L.length cap := by
  rcases h.2 with ⟨_, h2⟩ | ⟨g, cap, cur, h1, _⟩
  · omega
  · exact ⟨g, cap, h1⟩
theorem RowK.lt (h : RowK K e v L w) {g : Nat} (hg : v.ownBlock = some g) : g < w.heap.size := (World.ownsRow.lt h g hg).2
theorem RowK.at {g n c i : Nat} (hn : n = L.length) (h : RowK K e (.slice (some ⟨g, 0, none⟩) n c) L w) (hL : Wide K L) (hi : i < L.length) : w.rangeAt g (K * i) (L.getD i []) := fun j u hj => by
  subst hn
  have hjl := (List.getElem?_eq_some_iff.1 hj).1
  rw [hL.getD hi] at hjl
  have hlt : K * i + j < L.length * K := by
    have := Nat.mul_le_mul_left K hi
    rw [Nat.succ_eq_add_one, Nat.mul_succ] at this
    rw [Nat.mul_comm L.length]
    omega
  rw [World.ownsRow.cellAt h _ hlt, flat_get hL hi hjl]
  exact hj
end
end Go.Proofs.Ytenmkfjgjemiiaa
namespace Go.Proofs.Ytenmkfjgjemiiaa
open Go.RowKit Go.BigFrame
theorem sizeEL {e : EntN} (h : e.Ok) : (Try.prog.info? 30).map (·.size) = some (entL e).length := by rw [entL_len h]; exact Try.sizeE
theorem draft_mid {g o : Nat} {d : DraftN} {w : World} (h : w.rangeAt g o (draftL d)) : w.cell? ⟨g, o, none⟩ = some (.int .i64 d.kind) ∧ w.cell? ⟨g, o + 1, none⟩ = some (.string ⟨d.key.toArray⟩) ∧ w.cell? ⟨g, o + 2, none⟩ = some (.string ⟨d.val.toArray⟩) ∧ w.rangeAt g (o + 3) (nums .u8 d.ref) := by
  refine ⟨h 0 _ rfl, h 1 _ rfl, h 2 _ rfl, fun j v hj => ?_⟩
  have h1 := h (j + 3) v (by
    rw [draftL, List.getElem?_cons_succ, List.getElem?_cons_succ, List.getElem?_cons_succ]
    exact hj)
  rw [show o + (j + 3) = o + 3 + j by omega] at h1
  exact h1
theorem neq_ent (a b : EntN) (ha : a.Ok) (hb : b.Ok) (w : World) : (binOp .neq 30 (.agg (entV a)) (.agg (entV b))).run Try.prog w = .ok (.bool (!decide (a = b))) w := by
  rw [run_neq_struct, equal_ent a b ha hb]
  rfl
section
variable (a : EntN) (ha : a.Ok)
include ha
omit ha in
end
end Go.Proofs.Ytenmkfjgjemiiaa
namespace Go.Proofs.Ytenmkfjgjemiiaa
open Go.RowKit
theorem wpList_load_mid_want {P : Program} {ops : Array Oper} {rest : List Oper} {op : Oper} {a : Act} {w : World} {Q : Exit → Act → World → Prop} (hw : Region.wanted op (yielded ops a.tmps) = true) (ty : TypeId) (x : Operand) (ho : op.op = .load ty x)
    (b o : Nat) (hx : a.eval x = .pointer (some ⟨b, o, none⟩)) (cs : List Value) (d : TypeDesc) (hc : w.rangeAt b o cs) (hu : P.underlying ty = some d) (hd : d.isRow = true) (hi : (P.info? ty).map (·.size) = some cs.length)
    (h : wpList P ops Q rest (a.put op.dst (.agg cs.toArray)) w) : wpList P ops Q (op :: rest) a w :=
  BigFrame.wpList_want hw fun _ hK => wp_load_mid ty x ho b o hx cs d hc hu hd hi (hK _ _ h)
end Go.Proofs.Ytenmkfjgjemiiaa
namespace Go.Proofs.Ytenmkfjgjemiiaa
open Go.RowKit Go.BigFrame
def Vals (q : Nat → Bool) (V : Nat → Value) (L : List (Nat × Value)) : Prop := ∀ n v, q n = true → L.lookup n = some v → V n = v
section
variable {q : Nat → Bool} {V : Nat → Value} {L : List (Nat × Value)} {i n : Nat} {v u : Value}
theorem Vals.none : Vals (fun _ => false) V L := fun _ _ h => by cases h
theorem Vals.set (h : Vals q V L) (hl : L.lookup i = some v) : Vals (fun j => q j || j == i) (upd V i v) L := fun n x hn hx => by
  by_cases e : n = i
  · subst e
    rw [upd_same]
    exact Option.some.inj (hl.symm.trans hx)
  · rw [upd_ne V v e]
    exact h n x (seen_ne e hn) hx
theorem Vals.off (h : Vals q V L) (hl : L.lookup i = Option.none) : Vals (fun j => q j || j == i) (upd V i u) L := fun n x hn hx => by
  by_cases e : n = i
  · subst e
    rw [hl] at hx
    cases hx
  · rw [upd_ne V u e]
    exact h n x (seen_ne e hn) hx
theorem Vals.get (h : Vals q V L) (n : Nat) (hq : q n = true) (hl : L.lookup n = some v) : V n = v := h n v hq hl
end
example (q : Nat → Bool) (V : Nat → Value) (a b c : Value) (h : Vals q V [(0, a), (1, b), (2, .bool true), (5, c)]) (hq : ∀ i, i < 6 → q i = true) (K : Value → (Nat → Bool) → (Nat → Value) → Prop) (hK : ∀ v, Vals (fun j => q j || j == 5) (upd V 5 v) [(0, a), (1, b), (2, .bool true), (5, c)] ∧ True → K v q V) : K c q V ∧ V 1 = b := by
  refine ⟨hK _ ⟨h.set rfl, trivial⟩, ?_⟩
  have v1 := h.get 1 (hq 1 (by decide)) rfl
  have v2 := h.get 2 (hq 2 (by decide)) rfl
  have v5 := h.get 5 (hq 5 (by decide)) rfl
  exact v1
example (q : Nat → Bool) (V : Nat → Value) (a b c : Value) (h : Vals q V [(0, a), (1, b), (2, .bool true), (5, c)]) (u : Value) : Vals (fun j => q j || j == 3) (upd V 3 u) [(0, a), (1, b), (2, .bool true), (5, c)] := h.off rfl
end Go.Proofs.Ytenmkfjgjemiiaa
namespace Go.Proofs.Ytenmkfjgjemiiaa
open Go.RowKit Go.BigFrame
set_option maxHeartbeats 2000000 in
set_option maxRecDepth 100000 in
theorem ref_goodDraft (d : DraftN) (hr : IdOk d.ref) (hk : d.key.length ≤ 140737488351232) (hv : d.val.length ≤ 140737488351232) (w : World) :
    Calls Try.prog 28 #[.agg (draftV d)] w fun e w' => e = .returned (.bool (decide (GoodD d))) ∧ Below w.heap.size w w' := by
  have hx : Cells w.heap.size 28 (draftV d) (w.alloc (.cells (draftV d) 28)) := heap_alloc_new w _
  have hb : Below w.heap.size w (w.alloc (.cells (draftV d) 28)) := (Below.refl _ _).alloc (Nat.le_refl _) _
  obtain ⟨c0, c1, c2, c3⟩ := draft_cells hx
  have HC3 := Lib.hid c3
  have HB := Lib.hid hb
  have heq := fun w' => equal_idI d.ref zeroI hr.1 zeroI_ok.1 hr.2 zeroI_ok.2 w'
  have HI := Lib.hid (show (Try.prog.info? 26).map (·.size) = some d.ref.length by rw [hr.1]; exact Try.sizeI)
  obtain ⟨k, hkd⟩ : ∃ k, d.kind = k := ⟨_, rfl⟩
  obtain ⟨kl, hkl⟩ : ∃ n, d.key.length = n := ⟨_, rfl⟩
  obtain ⟨vl, hvl⟩ : ∃ n, d.val.length = n := ⟨_, rfl⟩
  have HG := Shut.mk (show GoodD d ↔ 1 ≤ k ∧ k ≤ 5 ∧ 1 ≤ kl ∧ kl ≤ 16 ∧ vl ≤ 64 ∧ (k ≤ 3 → d.ref = zeroI) ∧ (k = 5 → d.ref ≠ zeroI ∧ d.val = []) by rw [← hkd, ← hkl, ← hvl]; rfl)
  rw [hkd] at c0
  clear hx hb c3
  by_cases h1 : k < 1
  · have hgd : decide (GoodD d) = false := decide_eq_false (fun h => by have := HG.out.1 h; omega)
    rw [hgd]
    go_enter Try.func28, Try.ntmps28
    go_wp2_with fail
    go_ret
    exact ⟨rfl, HB.out⟩
  by_cases h2 : 5 < k
  · have hgd : decide (GoodD d) = false := decide_eq_false (fun h => by have := HG.out.1 h; omega)
    rw [hgd]
    go_enter Try.func28, Try.ntmps28
    go_wp2_with fail
    go_ret
    exact ⟨rfl, HB.out⟩
  by_cases h3 : kl < 1
  · have hgd : decide (GoodD d) = false := decide_eq_false (fun h => by have := HG.out.1 h; omega)
    rw [hgd]
    go_enter Try.func28, Try.ntmps28
    go_wp2_with fail
    go_ret
    exact ⟨rfl, HB.out⟩
  by_cases h4 : 16 < kl
  · have hgd : decide (GoodD d) = false := decide_eq_false (fun h => by have := HG.out.1 h; omega)
    rw [hgd]
    go_enter Try.func28, Try.ntmps28
    go_wp2_with fail
    go_ret
    exact ⟨rfl, HB.out⟩
  by_cases h5 : 64 < vl
  · have hgd : decide (GoodD d) = false := decide_eq_false (fun h => by have := HG.out.1 h; omega)
    rw [hgd]
    go_enter Try.func28, Try.ntmps28
    go_wp2_with fail
    go_ret
    exact ⟨rfl, HB.out⟩
  obtain ⟨z, hz2⟩ : ∃ z, (d.ref == zeroI) = z := ⟨_, rfl⟩
  have HZ := Shut.mk hz2
  rw [hz2, zeroI_lit] at heq
  clear hz2
  have hzp : (z = true ↔ d.ref = zeroI) := by rw [← HZ.out]; simp
  by_cases h6 : k ≤ 3
  · have hgd : decide (GoodD d) = z := by
      cases z with
      | true => exact decide_eq_true (HG.out.2 ⟨by omega, by omega, by omega, by omega, by omega, fun _ => hzp.1 rfl, fun h => by omega⟩)
      | false => exact decide_eq_false (fun h => by have := hzp.2 ((HG.out.1 h).2.2.2.2.2.1 h6); cases this)
    rw [hgd]
    clear hgd hzp
    go_enter Try.func28, Try.ntmps28
    go_wp2_with (refine wpList_load_id rfl 26 _ rfl w.heap.size 3 d.ref _ rfl HC3.out Try.underlying26 rfl HI.out ?_)
    go_ret
    exact ⟨rfl, HB.out⟩
  by_cases h7 : k = 4
  · have hgd : decide (GoodD d) = true := decide_eq_true (HG.out.2 ⟨by omega, by omega, by omega, by omega, by omega, fun h => by omega, fun h => by omega⟩)
    rw [hgd]
    clear hgd hzp
    have h8 : (k == 4) = true := by simp [h7]
    go_enter Try.func28, Try.ntmps28
    go_wp2_with (refine wpList_load_id rfl 26 _ rfl w.heap.size 3 d.ref _ rfl HC3.out Try.underlying26 rfl HI.out ?_)
    go_ret
    exact ⟨rfl, HB.out⟩
  have h8 : (k == 4) = false := by simp [h7]
  have hgd : decide (GoodD d) = (!z && d.val == []) := by
    rw [val_nil_beq]
    cases z with
    | true => exact decide_eq_false (fun h => ((HG.out.1 h).2.2.2.2.2.2 (by omega)).1 (hzp.1 rfl))
    | false =>
      by_cases hv0 : d.val = []
      · rw [decide_eq_true hv0]
        exact decide_eq_true (HG.out.2 ⟨by omega, by omega, by omega, by omega, by omega, fun h => by omega, fun _ => ⟨fun e => (by have := hzp.2 e; cases this), hv0⟩⟩)
      · rw [decide_eq_false hv0]
        exact decide_eq_false (fun h => hv0 ((HG.out.1 h).2.2.2.2.2.2 (by omega)).2)
  rw [hgd]
  clear hgd hzp
  cases z with
  | true =>
    go_enter Try.func28, Try.ntmps28
    go_wp2_with (refine wpList_load_id rfl 26 _ rfl w.heap.size 3 d.ref _ rfl HC3.out Try.underlying26 rfl HI.out ?_)
    go_ret
    exact ⟨rfl, HB.out⟩
  | false =>
    go_enter Try.func28, Try.ntmps28
    go_wp2_with (refine wpList_load_id rfl 26 _ rfl w.heap.size 3 d.ref _ rfl HC3.out Try.underlying26 rfl HI.out ?_)
    go_ret
    exact ⟨rfl, HB.out⟩
end Go.Proofs.Ytenmkfjgjemiiaa
namespace Go.Proofs.Ytenmkfjgjemiiaa
open Go.RowKit Go.BigFrame
theorem strsP_uni (L : List (List UInt8)) : ∀ u ∈ strs L, u.oneCell' = true := fun u hu => by
  obtain ⟨s, _, rfl⟩ := List.mem_map.1 hu
  rfl
theorem Try.infoStrP : (Try.prog.info? 9).map (fun i => (i.zero, i.size, i.bytes)) = some (some (.string ⟨#[]⟩), 1, 16) := by kernel_rfl
theorem strsP_src {ad : Addr} {L : List (List UInt8)} {w : World} (h : StrsAt (some ad) L w) : ∀ j u, (strs L)[j]? = some u → w.cell? (ad.add j) = some u := by
  intro j u hj
  rcases h with rfl | ⟨b, o, h1, h2, h3⟩
  · cases hj
  · cases h1
    have hlt := (List.getElem?_eq_some_iff.1 hj).1
    rw [strs_length] at hlt
    rw [Addr.add_lit, h3 j hlt, ← hj, strs, List.getElem?_map, List.getElem?_eq_getElem hlt]
    rfl
section
variable {w : World} {ops : Array Oper} {rest : List Oper} {o : Oper} {a : Act} {Q : Exit → Act → World → Prop}
theorem wpList_push_strs (hgd : o.guard = none) (s x : Operand) (ho : o.op = .call { callee := .builtin .append, args := #[s, x], argTypes := #[61, 61] })
    (B : Nat) (v : Value) (L M : List (List UInt8)) (ao : Option Addr) (n c : Nat) (hn : n = M.length) (hs : a.eval s = v) (hown : OwnS B v L w) (hx : a.eval x = .slice ao n c) (hsrc : StrsAt ao M w) (hnil : ao = none → c = 0)
    (h63 : L.length + M.length ≤ 1000000) (hB : B ≤ w.heap.size)
    (h : ∀ v' w', Hid (OwnS B v' (L ++ M) w') → Hid (Below B w w') → Hid (w.grownBy w' v.ownBlock) → wpList Try.prog ops Q rest (a.put o.dst v') w') : wpList Try.prog ops Q (o :: rest) a w := by
  obtain ⟨i, hi, hz0, hz1, hz2⟩ := info_parts Try.infoStrP
  have hap : strs (L ++ M) = strs L ++ strs M := by simp [strs]
  cases ao with
  | none =>
    obtain rfl := hnil rfl
    have hm : M = [] := by
      rcases hsrc with h | ⟨b, o', h, _⟩
      · exact h
      · cases h
    subst hm
    subst hn
    refine wpList_append_own_none hgd s x _ ho B 9 i 1 Try.underlying61 hi v L.length (strs L) hs hown hx (h _ _ (Lib.hid ?_) (Lib.hid (Below.refl _ _)) (Lib.hid ⟨rfl, rfl, rfl, Nat.le_refl _, fun _ _ _ => rfl⟩))
    rw [List.append_nil]
    exact hown
  | some ad =>
    subst hn
    refine wpList_append_own_at w hgd s x _ ho B 9 i _ 1 16 Try.underlying61 hi hz0 hz1 hz2 rfl (by decide) v L.length (strs L) hs hown ad M.length c (strs M) hx (by rw [strs_length, Nat.mul_one]) (strsP_src hsrc) (strsP_uni M) (by unfold maxLen; omega) (by omega) hB ?_
    intro v' w' h2 hg _ h3
    refine h v' w' (Lib.hid ?_) (Lib.hid ((Below.refl B w).grown hg hB (fun k hk => (World.ownsRow.lt hown k hk).1))) (Lib.hid hg)
    show w'.ownsRow B _ 1 v' (L ++ M).length (strs (L ++ M))
    rw [List.length_append, hap]
    exact h2
end
theorem strs_lit (w : World) (L : List (List UInt8)) (t : TypeId) : StrsAt (some ⟨w.heap.size, 0, none⟩) L (w.alloc (.cells (strs L).toArray t)) := by
  refine .inr ⟨w.heap.size, 0, rfl, by rw [World.size_alloc]; exact Nat.lt_succ_self _, fun i hi => ?_⟩
  rw [Lib.cell_of_heap (heap_alloc_new w _), List.getElem?_toArray, Nat.zero_add, strs, List.getElem?_map, List.getElem?_eq_getElem hi]
  rfl
def NewS (s : Nat → Bool) (V : Nat → Value) (i n : Nat) (L : List (List UInt8)) (w : World) : Prop := s i = true → ∃ g, V i = .slice (some ⟨g, 0, none⟩) n n ∧ StrsAt (some ⟨g, 0, none⟩) L w
theorem NewS.none {V : Nat → Value} {i n : Nat} {L : List (List UInt8)} {w : World} : NewS (fun _ => false) V i n L w := fun h => by cases h
theorem NewS.ne {s : Nat → Bool} {V : Nat → Value} {i j n : Nat} {L : List (List UInt8)} {w w' : World} {u : Value} (h : NewS s V j n L w) (hne : j ≠ i) (hb : Below w.heap.size w w') : NewS (fun j => s j || j == i) (upd V i u) j n L w' := fun hs => by
  obtain ⟨g, e, hk⟩ := h (seen_ne hne hs)
  exact ⟨g, by rw [upd_ne V u hne]; exact e, hk.below hb⟩
theorem NewS.same {s : Nat → Bool} {V : Nat → Value} {i n : Nat} {L : List (List UInt8)} {w : World} {t : TypeId} : NewS (fun j => s j || j == i) (upd V i (.slice (some ⟨w.heap.size, 0, Option.none⟩) n n)) i n L (w.alloc (.cells (strs L).toArray t)) :=
  fun _ => ⟨w.heap.size, upd_same _ _ _, strs_lit w L t⟩
theorem op_build_strs {P : Program} {o : Oper} {a : Act} {w : World} {K : Act → World → Prop} {Q : Exit → Act → World → Prop} (t e : TypeId) (n : Nat) (xs : Array (Nat × Operand)) (ho : o.op = .buildSlice t n xs) (vs : List (Nat × Value)) (L : List (List UInt8)) (hv : (xs.map fun (i, x) => (i, a.eval x)) = vs.toArray)
    (hr : ∀ w, (Instr.buildSlice t n vs.toArray).run P w = .ok (.slice (some ⟨w.heap.size, 0, none⟩) n n) (w.alloc (.cells (strs L).toArray e)))
    (h : K (a.put o.dst (.slice (some ⟨w.heap.size, 0, none⟩) n n)) (w.alloc (.cells (strs L).toArray e))) : OpWp P o a w K Q := by
  refine ⟨?_⟩
  unfold Oper.wp execOp
  simp only [ho, hv, Sem.run_bind, Sem.run_pure, hr, Result.andThen_ok]
  exact h
theorem built_strs2 (a b : List UInt8) (w : World) : (Instr.buildSlice 61 2 [(0, Value.string ⟨a.toArray⟩), (1, .string ⟨b.toArray⟩)].toArray).run Try.prog w = .ok (.slice (some ⟨w.heap.size, 0, none⟩) 2 2) (w.alloc (.cells (strs [a, b]).toArray 9)) := by kernel_rfl
theorem built_strs3 (a b c : List UInt8) (w : World) : (Instr.buildSlice 61 3 [(0, Value.string ⟨a.toArray⟩), (1, .string ⟨b.toArray⟩), (2, .string ⟨c.toArray⟩)].toArray).run Try.prog w = .ok (.slice (some ⟨w.heap.size, 0, none⟩) 3 3) (w.alloc (.cells (strs [a, b, c]).toArray 9)) := by kernel_rfl
end Go.Proofs.Ytenmkfjgjemiiaa
namespace Go.Proofs.Ytenmkfjgjemiiaa
open Go.ChangeShapes Go.WideShapes Go.ChangeAt Go.RowKit
theorem law_laidOut : laidOutB Try.prog = true := by kernel_rfl
theorem lt_of_cell {w : World} {a : Addr} {v : Value} (h : w.cell? a = some v) : a.block < w.heap.size := by
  rcases Nat.lt_or_ge a.block w.heap.size with h' | h'
  · exact h'
  · simp [World.cell?, Array.getElem?_eq_none h'] at h
end Go.Proofs.Ytenmkfjgjemiiaa
namespace Go.Proofs.Ytenmkfjgjemiiaa
open Go.RowKit Go.BigFrame Go.ChangeShapes Go.WideShapes Go.Deep
def RAt (K : Nat) (ao : Option Addr) (C : List (List Value)) (w : World) : Prop :=
  C = [] ∨ ∃ b o, ao = some ⟨b, o, none⟩ ∧ b < w.heap.size ∧ ∀ (i : Nat) (c : List Value), C[i]? = some c → w.rangeAt b (o + i * K) c
theorem RAt.below {K : Nat} {ao : Option Addr} {C : List (List Value)} {w w' : World} (h : RAt K ao C w) (hb : Below w.heap.size w w') : RAt K ao C w' := by
  rcases h with h | ⟨b, o, h1, h2, h3⟩
  · exact .inl h
  · exact .inr ⟨b, o, h1, Nat.lt_of_lt_of_le h2 hb.size, fun i c hc j v hv => (hb.cell (p := ⟨b, o + i * K + j, none⟩) h2).trans (h3 i c hc j v hv)⟩
theorem RAt.get {K : Nat} {ao : Option Addr} {C : List (List Value)} {w : World} (h : RAt K ao C w) {i : Nat} {c : List Value} (hc : C[i]? = some c) : ∃ b o, ao = some ⟨b, o, none⟩ ∧ b < w.heap.size ∧ w.rangeAt b (o + i * K) c := by
  rcases h with rfl | ⟨b, o, h1, h2, h3⟩
  · cases hc
  · exact ⟨b, o, h1, h2, h3 i c hc⟩
theorem RAt.getM {α : Type} {K : Nat} {f : α → List Value} {ao : Option Addr} {L : List α} {w : World} (h : RAt K ao (L.map f) w) {i : Nat} {x : α} (hx : L[i]? = some x) : ∃ b o, ao = some ⟨b, o, none⟩ ∧ b < w.heap.size ∧ w.rangeAt b (o + i * K) (f x) :=
  h.get (by rw [List.getElem?_map, hx]; rfl)
theorem RowK.rat {K : Nat} {e : TypeId} {ao : Option Addr} {n c : Nat} {C : List (List Value)} {w : World} (h : RowK K e (.slice ao n c) C w) (hW : Wide K C) : RAt K ao C w := by
  by_cases h0 : C = []
  · exact .inl h0
  · obtain ⟨g, cap, hv⟩ := h.formB (List.length_pos_iff.2 h0)
    simp only [Value.slice.injEq] at hv
    obtain ⟨rfl, rfl, rfl⟩ := hv
    have hl := h.lt (g := g) rfl
    refine .inr ⟨g, 0, rfl, hl, fun i c hc => ?_⟩
    obtain ⟨hi, rfl⟩ := List.getElem?_eq_some_iff.1 hc
    have h1 := RowK.at rfl h hW hi
    rw [List.getD_eq_getElem?_getD, List.getElem?_eq_getElem hi] at h1
    rw [Nat.zero_add, Nat.mul_comm]
    exact h1
theorem wide_map {α : Type} {K : Nat} {f : α → List Value} {L : List α} (h : ∀ x ∈ L, (f x).length = K) : Wide K (L.map f) := fun c hc => by
  obtain ⟨x, hx, rfl⟩ := List.mem_map.1 hc
  exact h x hx
theorem weights_mem_rows {H : Type} {P : Program} {e : TypeId} : ∀ (l : List (DataW H)) (d : DataW H), d ∈ l → ∀ n ∈ DataW.weights P e d, n ∈ DataW.weightsAll P e l
  | [], _, h, _, _ => by cases h
  | x :: l, d, h, n, hn => by
    simp only [DataW.weightsAll, List.mem_append]
    rcases List.mem_cons.1 h with rfl | h
    · exact .inl hn
    · exact .inr (weights_mem_rows l d h n hn)
set_option maxRecDepth 100000 in
theorem open_row_cells {α : Type} {H : Type} {enc : TypeId × Value → H} {P : Program} {W : World} {fuel : Nat} {cs : List Value} {xx : DataW H × List MemPlace} (T e : TypeId) (K : Nat) (f : α → List Value) (G : α → Prop) (z : α)
    (hT : P.underlying T = some (.slice e)) (hK : P.cellsOf e = K) (hK0 : 0 < K) (hB : 1 ≤ P.bytesOf e) (hf : ∀ y, G y → (f y).length = K)
    (hop : ∀ n cs x, DataW.trod enc P W 0 (fun _ => true) true n e cs = some x → (∀ n ∈ DataW.weights P e x.1, n ≤ 140737488351232) → ∃ y, cs = f y ∧ G y)
    (hff : DataW.trod enc P W 0 (fun _ => true) true fuel T cs = some xx) (hwt : ∀ n ∈ DataW.weights P T xx.1, n ≤ 140737488351232) :
    ∃ (ao : Option Addr) (L : List α) (cap : Nat), cs = [.slice ao L.length cap] ∧ RAt K ao (L.map f) W ∧ (∀ x ∈ L, G x) ∧ L.length ≤ 140737488351232 ∧ L.length ≤ cap := by
  rcases Deep.open_slice hT hff with ⟨hcs, _⟩ | ⟨x, len0, cap, m, n, D, Pl, hcs, _, hl, hm, hmm, hx, hi⟩
  · exact ⟨none, [], 0, hcs, .inl rfl, (fun x hx => by cases hx), Nat.zero_le _, Nat.le_refl _⟩
  · simp only [if_true] at hmm
    subst hmm
    rw [hK] at hi
    have hd : xx.1 = .slice ((List.range len0).map D) ((List.range (m - len0)).map fun j => D (len0 + j)) := congrArg Prod.fst hx
    rw [hd] at hwt
    simp only [DataW.weights, hT] at hwt
    have hwn := hwt _ (List.mem_cons_self ..)
    simp only [List.length_map, List.length_range] at hwn
    have hwl : len0 ≤ 140737488351232 := by
      have h1 := Nat.le_mul_of_pos_right len0 hB
      have h2 : len0 + (m - len0) = m := by omega
      rw [h2] at hwn
      have h3 : m * 1 ≤ m * P.bytesOf e := Nat.mul_le_mul_left m hB
      omega
    have hE : ∀ i, i < len0 → ∃ y : α, G y ∧ ∀ j u, (f y)[j]? = some u → W.cell? ((x.add (i * K)).add j) = some u := by
      intro i him
      obtain ⟨cs', hc, htr⟩ := hi i (by omega)
      obtain ⟨_, hcl, hat⟩ := World.cells?_some hc
      obtain ⟨y, rfl, hok⟩ := hop _ _ _ htr (fun q hq => hwt q (List.mem_cons_of_mem _ (List.mem_append_left _ (weights_mem_rows _ (D i) (List.mem_map.2 ⟨i, List.mem_range.2 him, rfl⟩) q hq))))
      refine ⟨y, hok, fun j u hj => ?_⟩
      have hj4 : j < K := by
        have := (List.getElem?_eq_some_iff.1 hj).1
        rw [hf y hok] at this
        exact this
      rw [hat j hj4]
      exact hj
    let F : Nat → α := fun i => if h : i < len0 then (hE i h).choose else z
    have hF : ∀ i, i < len0 → G (F i) ∧ ∀ j u, (f (F i))[j]? = some u → W.cell? ((x.add (i * K)).add j) = some u := by
      intro i him
      simp only [F, dif_pos him]
      exact (hE i him).choose_spec
    have hlen : ((List.range len0).map F).length = len0 := by simp
    refine ⟨some x, (List.range len0).map F, m, by rw [hlen, hcs], ?_, ?_, by rw [hlen]; exact hwl, by rw [hlen]; exact hl⟩
    · by_cases h0 : len0 = 0
      · subst h0; exact .inl rfl
      · obtain ⟨g0, h01⟩ := hF 0 (by omega)
        obtain ⟨u0, hu0⟩ : ∃ u, (f (F 0))[0]? = some u := ⟨_, List.getElem?_eq_getElem (by rw [hf _ g0]; exact hK0)⟩
        have h1 := h01 0 _ hu0
        obtain ⟨b, o, spot⟩ := x
        have hspot : spot = none := by simpa [Addr.add] using World.cell?_spot h1
        subst hspot
        refine .inr ⟨b, o, rfl, ?_, fun i c hc => ?_⟩
        · have := lt_of_cell h1
          simpa [Addr.add] using this
        · have hi3 : i < len0 := by have := (List.getElem?_eq_some_iff.1 hc).1; simpa using this
          simp only [List.getElem?_map, List.getElem?_range hi3, Option.map_some, Option.some.injEq] at hc
          subst hc
          obtain ⟨_, g2⟩ := hF i hi3
          refine fun j u hj => ?_
          have := g2 j u hj
          rw [Addr.add_mid, Addr.add_mid] at this
          exact this
    · intro q hq
      obtain ⟨i, hi2, rfl⟩ := List.mem_map.1 hq
      exact (hF i (List.mem_range.1 hi2)).1
set_option maxRecDepth 100000 in
theorem open_row {α : Type} {H : Type} {enc : TypeId × Value → H} {P : Program} {W : World} {v : Value} {d : DataW H} {p : List MemPlace} {base : Nat} (T e : TypeId) (K : Nat) (f : α → List Value) (G : α → Prop) (z : α)
    (hT : P.underlying T = some (.slice e)) (hK : P.cellsOf e = K) (hK0 : 0 < K) (hB : 1 ≤ P.bytesOf e) (hf : ∀ y, G y → (f y).length = K)
    (hop : ∀ n cs x, DataW.trod enc P W 0 (fun _ => true) true n e cs = some x → (∀ n ∈ DataW.weights P e x.1, n ≤ 140737488351232) → ∃ y, cs = f y ∧ G y)
    (hv : Value.okWide P W .any base T v) (h : DataW.Trod enc P W 0 (fun _ => true) true T v d p) (hwt : ∀ n ∈ DataW.weights P T d, n ≤ 140737488351232) :
    ∃ (ao : Option Addr) (L : List α) (cap : Nat), v = .slice ao L.length cap ∧ RAt K ao (L.map f) W ∧ (∀ x ∈ L, G x) ∧ L.length ≤ 140737488351232 := by
  obtain ⟨a0, len0, cap0, rfl⟩ := okWide_slice hT hv
  obtain ⟨fuel, hff⟩ := h
  obtain ⟨ao, L, cap, hcs, h1, h2, h3, _⟩ := open_row_cells T e K f G z hT hK hK0 hB hf hop hff hwt
  simp [Value.cells] at hcs
  obtain ⟨rfl, rfl, rfl⟩ := hcs
  exact ⟨_, L, _, rfl, h1, h2, h3⟩
def OwnR (B K : Nat) (e : TypeId) (v : Value) (C : List (List Value)) (w : World) : Prop := w.ownsRow B e K v C.length C.flatten
theorem OwnR.mono {B B' K : Nat} {e : TypeId} {v : Value} {C : List (List Value)} {w : World} (h : OwnR B K e v C w) (hB : B' ≤ B) : OwnR B' K e v C w := by
  refine ⟨h.1, ?_⟩
  rcases h.2 with h0 | ⟨g, cap, cur, hv, hg, r⟩
  · exact Or.inl h0
  · exact Or.inr ⟨g, cap, cur, hv, Nat.le_trans hB hg, r⟩
theorem OwnR.row {B K : Nat} {e : TypeId} {v : Value} {C : List (List Value)} {w : World} (h : OwnR B K e v C w) : RowK K e v C w := h.mono (Nat.zero_le _)
theorem OwnR.form {B K : Nat} {e : TypeId} {v : Value} {C : List (List Value)} {w : World} (h : OwnR B K e v C w) : ∃ ao cap, v = .slice ao C.length cap := h.row.form
theorem OwnR.only {B K : Nat} {e : TypeId} {v : Value} {C : List (List Value)} {w w' : World} {O : Nat → Prop} (h : OwnR B K e v C w) (k : Only O w w') (hO : ∀ g, v.ownBlock = some g → ¬ O g) : OwnR B K e v C w' := by
  refine ⟨h.1, ?_⟩
  rcases h.2 with h2 | ⟨g, cap, cur, h1, h2, h3, h4⟩
  · exact .inl h2
  · exact .inr ⟨g, cap, cur, h1, h2, (k.block g (lt_of_block h3) (hO g (by rw [h1]; rfl))).trans h3, h4⟩
theorem OwnR.below {B K : Nat} {e : TypeId} {v : Value} {C : List (List Value)} {w w' : World} (h : OwnR B K e v C w) (k : Below w.heap.size w w') : OwnR B K e v C w' := h.only (Only.of (O := fun _ => False) k) (fun _ _ => id)
theorem OwnR.rat {B K : Nat} {e : TypeId} {ao : Option Addr} {n c : Nat} {C : List (List Value)} {w : World} (h : OwnR B K e (.slice ao n c) C w) (hW : Wide K C) : RAt K ao C w := h.row.rat hW
end Go.Proofs.Ytenmkfjgjemiiaa
namespace Go.Proofs.Ytenmkfjgjemiiaa
open Go.RowKit Go.BigFrame
def EntsAt (ao : Option Addr) (L : List EntN) (w : World) : Prop := RAt 73 ao (L.map entL) w
def OwnE15 (B : Nat) (v : Value) (L : List EntN) (w : World) : Prop := OwnR B 73 30 v (L.map entL) w ∧ ∀ x ∈ L, x.Ok
theorem OwnE15.form {B : Nat} {v : Value} {L : List EntN} {w : World} (h : OwnE15 B v L w) : ∃ ao cap, v = .slice ao L.length cap := by
  have := h.1.form
  rwa [List.length_map] at this
theorem OwnE15.mono {B B' : Nat} {v : Value} {L : List EntN} {w : World} (h : OwnE15 B v L w) (hB : B' ≤ B) : OwnE15 B' v L w := ⟨h.1.mono hB, h.2⟩
theorem OwnE15.below {B : Nat} {v : Value} {L : List EntN} {w w' : World} (h : OwnE15 B v L w) (k : Below w.heap.size w w') : OwnE15 B v L w' := ⟨h.1.below k, h.2⟩
theorem OwnE15.at {B : Nat} {ao : Option Addr} {n c : Nat} {L : List EntN} {w : World} (h : OwnE15 B (.slice ao n c) L w) : EntsAt ao L w := h.1.rat (wide_map fun x hx => entL_len (h.2 x hx))
theorem Try.infoE73 : ∃ bytes, bytes ≤ 1024 ∧ (Try.prog.info? 30).map (fun i => (i.zero, i.size, i.bytes)) = some (some (.agg (entV noE)), 73, bytes) := ⟨168, by decide, by kernel_rfl⟩
end Go.Proofs.Ytenmkfjgjemiiaa
namespace Go.Proofs.Ytenmkfjgjemiiaa
open Go.RowKit Go.BigFrame
theorem strs_set (l : List (List UInt8)) (j : Nat) (t : List UInt8) : strs (l.set j t) = (strs l).set j (.string ⟨t.toArray⟩) := by simp [strs, List.map_set]
theorem OwnS.setT {B g n c : Nat} {l : List (List UInt8)} {w : World} (hn : n = l.length) (h : OwnS B (.slice (some ⟨g, 0, none⟩) n c) l w) (j : Nat) (t : List UInt8) :
    OwnS B (.slice (some ⟨g, 0, none⟩) n c) (l.set j t) (w.setCell ⟨g, j, none⟩ (.string ⟨t.toArray⟩)) := by
  subst hn
  have h1 := (World.ownsRow.stored h j (.string ⟨t.toArray⟩)).1
  unfold OwnS
  rw [List.length_set, strs_set]
  exact h1
theorem OwnS.there {B g n c : Nat} {l : List (List UInt8)} {w : World} (hn : n = l.length) (h : OwnS B (.slice (some ⟨g, 0, none⟩) n c) l w) {j : Nat} (hj : j < n) : ∃ t : List UInt8, w.cell? ⟨g, j, none⟩ = some (.string ⟨t.toArray⟩) ∧ w.frozen? ⟨g, j, none⟩ = false := by
  subst hn
  have h1 := World.ownsRow.cellAt h j (by rw [Nat.mul_one]; exact hj)
  refine ⟨l[j], ?_, World.ownsRow.frozenAt h j⟩
  rw [h1, strs, List.getElem?_map, List.getElem?_eq_getElem hj]
  rfl
theorem madeCells_strs (n : Nat) : (madeCells #[Value.string ⟨#[]⟩] n).toList = strs (List.replicate n []) := by
  rw [strs, List.map_replicate]
  exact toList_madeCells_one _ _
end Go.Proofs.Ytenmkfjgjemiiaa
namespace Go.Proofs.Ytenmkfjgjemiiaa
open Go.RowKit Go.BigFrame
def partTE (L : List EntN) (k : Nat) : List (List UInt8) := (L.take k).map entB ++ List.replicate (L.length - k) []
theorem partTE_len {L : List EntN} {k : Nat} (h : k ≤ L.length) : (partTE L k).length = L.length := by
  rw [partTE, List.length_append, List.length_map, List.length_take, List.length_replicate]
  omega
theorem partTE_zero (L : List EntN) : partTE L 0 = List.replicate L.length [] := rfl
theorem partTE_full (L : List EntN) : partTE L L.length = L.map entB := by simp [partTE]
theorem partTE_set {L : List EntN} {k : Nat} (h : k < L.length) : (partTE L k).set k (entB L[k]) = partTE L (k + 1) := by
  have hl : ((L.take k).map entB).length = k := by rw [List.length_map, List.length_take]; omega
  rw [partTE, partTE, List.set_append_right _ _ (by omega), hl, Nat.sub_self, show L.length - k = (L.length - (k + 1)) + 1 by omega, List.replicate_succ, List.set_cons_zero, List.take_succ_eq_append_getElem h, List.map_append, List.append_assoc]
  rfl
set_option maxHeartbeats 4000000 in
set_option maxRecDepth 100000 in
theorem dev_texts15 (ao : Option Addr) (L : List EntN) (c : Nat) (w : World) (hL : ∀ x ∈ L, x.Len ∧ x.seq < 9223372036854775808) (hn : L.length ≤ 1000000) (hl : (entsB L).length ≤ 140737488355328) (hp : EntsAt ao L w) :
    Calls Try.prog 16 #[.slice ao L.length c] w fun e w' => e = .returned (.string ⟨(entsB L).toArray⟩) ∧ Below w.heap.size w w' := by
  obtain ⟨i0, hi2, hz0, hz1, hz2⟩ := info_parts Try.infoString
  have HY := Lib.hid hi2
  have HY0 := Lib.hid hz0
  have HY1 := Lib.hid hz1
  have HY2 := Lib.hid hz2
  have HP := Lib.hid hp
  have HO := Lib.hid hL
  have HZE := Lib.hid (show (Try.prog.info? 30).bind (·.zero) = some (.agg (entL noE).toArray) by kernel_rfl)
  have HLEN := Lib.hid hl
  obtain ⟨n, hnn⟩ : ∃ n, L.length = n := ⟨_, rfl⟩
  have HNN := Shut.mk hnn
  rw [hnn] at hn ⊢
  clear hnn hp hL hi2 hz0 hz1 hz2 hl
  go_enter Try.func16, Try.ntmps16
  go_wp2_with (at_make; refine wpList_make_full _ rfl _ _ 61 rfl w.heap.size 9 i0 (.string ⟨#[]⟩) 1 Try.underlying61 HY.out HY0.out HY1.out .i64 .i64 _ _ n rfl rfl rfl rfl (by rw [HY2.out]; omega) (by unfold maxLen; omega) (Nat.le_refl _) ?_)
  intro w2 ho hgrow
  have hb2 : Below w.heap.size w w2 := (Below.refl w.heap.size w).grown hgrow (Nat.le_refl _) (by intro g hg; cases hg)
  have HOW := Lib.hid (show OwnS w.heap.size (.slice (some ⟨w.heap.size, 0, none⟩) n n) (partTE L 0) w2 by rw [partTE_zero, HNN.out, OwnS, List.length_replicate, ← madeCells_strs]; exact ho)
  have HB2 := Lib.hid hb2
  have HWL := Lib.hid (show w.heap.size < w2.heap.size from (World.ownsRow.lt ho w.heap.size rfl).2)
  clear ho hgrow hb2
  go_wp2_with fail
  go_loopw [11] (fun i wr => ∃ k : Nat, k ≤ n ∧ i = .int .i64 k ∧ OwnS w.heap.size (.slice (some ⟨w.heap.size, 0, none⟩) n n) (partTE L k) wr ∧ Below w.heap.size w wr) (fun i _ => n - (intOf i).toNat)
  case atStart => exact ⟨0, Nat.zero_le _, rfl, HOW.out, HB2.out⟩
  case round =>
    clear HOW HB2
    obtain ⟨k, hk, rfl, ho, hb⟩ := hrel
    have HOW := Lib.hid ho
    have HB := Lib.hid hb
    have HPW := Lib.hid (HP.out.below hb)
    clear ho hb
    by_cases hlt : k < n
    · obtain ⟨y, hy⟩ : ∃ y, L[k]? = some y := ⟨_, List.getElem?_eq_getElem (by rw [HNN.out]; exact hlt)⟩
      have hyk : L[k]'(by rw [HNN.out]; exact hlt) = y := by
        rw [List.getElem?_eq_getElem (by rw [HNN.out]; exact hlt)] at hy
        exact Option.some.inj hy
      have HNX := Shut.mk (show (partTE L k).set k (entB y) = partTE L (k + 1) by rw [← hyk]; exact partTE_set (by rw [HNN.out]; exact hlt))
      have HFY := Lib.hid (HO.out y (List.mem_of_getElem? hy))
      obtain ⟨b, ob, rfl, hbl, hr⟩ := HPW.out.getM hy
      have HR := Lib.hid hr
      have HSO := Lib.hid (sizeEL HFY.out.1.ok)
      have HSV := Lib.hid (sizeEV HFY.out.1.ok)
      have HSZ := Lib.hid (show (entV noE).size = (entV y).size by rw [entV_size HFY.out.1.ok]; rfl)
      clear hy hyk hr hbl
      go_wp2_with (first
        | (refine wpList_load_mid rfl 30 _ rfl b (ob + k * 73) rfl _ _ HR.out Try.underlying30 rfl HSO.out ?_)
        | (refine wpList_alloc_of rfl 30 rfl (entL noE) HZE.out ?_)
        | (refine wpList_store_cells rfl 30 _ _ rfl rfl wr.heap.size (entV noE) (entV y) 30 rfl rfl (heap_alloc_new wr _) HSV.out HSZ.out (entV_all y) ?_))
      intro w4 hc hb
      have hb4 : Below wr.heap.size wr w4 := But.toBelow ((Below.refl _ wr).alloc (Nat.le_refl _) _) hb.out (Nat.le_refl _) (by rw [World.size_alloc]; exact Nat.le_succ _)
      have HC4 := Lib.hid hc.out
      have HB4 := Lib.hid (HB.out.trans (hb4.mono HB.out.size))
      have HO4 := Lib.hid (HOW.out.below hb4)
      clear hc hb hb4 HB HOW HR
      have HTX := Lib.hid (dev_text15 y HFY.out.1 HFY.out.2 w4)
      obtain ⟨T, hT⟩ : ∃ T, entB y = T := ⟨_, rfl⟩
      rw [hT] at HTX HNX
      clear hT
      go_wp2_with (refine wpList_load_cells rfl 30 _ rfl wr.heap.size (entV y) 30 _ rfl HC4.out Try.underlying30 rfl HSV.out ?_)
      refine HTX.out.mono ?_
      rintro e w5 ⟨rfl, hb⟩
      have HB5 := Lib.hid (HB4.out.trans (hb.mono HB4.out.size))
      have HO5 := Lib.hid (HO4.out.below hb)
      clear hb HB4 HO4 HC4 HTX
      obtain ⟨t0, ht0, hf0⟩ := HO5.out.there (by rw [partTE_len (by rw [HNN.out]; omega), HNN.out]) hlt
      go_wp2_with fail
      exact ⟨⟨k + 1, by omega, by go_num, by rw [← HNX.out]; exact HO5.out.setT (by rw [partTE_len (by rw [HNN.out]; omega), HNN.out]) k T, below_set HB5.out (Nat.le_refl _) _ _⟩, by simp [intOf]; omega⟩
    · obtain rfl : k = n := by omega
      have HOF := Lib.hid (show StrsAt (some ⟨w.heap.size, 0, none⟩) (L.map entB) wr by
        have h := HOW.out
        rw [← HNN.out, partTE_full] at h
        exact strsAt_own (B := w.heap.size) (c := L.length) (by rw [List.length_map]; exact h))
      have HLF := Lib.hid (list_any (some ⟨w.heap.size, 0, none⟩) k (L.map entB) wr HOF.out (by rw [List.length_map, HNN.out]; omega) (by have := HLEN.out; rw [entsB] at this; omega))
      rw [List.length_map, HNN.out] at HLF
      go_wp2_with fail
      refine HLF.out.mono ?_
      rintro e w5 ⟨rfl, hb⟩
      have HB5 := Lib.hid (HB.out.trans (hb.mono HB.out.size))
      clear hb
      go_wp2_with fail
      go_ret
      exact ⟨rfl, HB5.out⟩
end Go.Proofs.Ytenmkfjgjemiiaa
namespace Go.Proofs.Ytenmkfjgjemiiaa
open Go.RowKit Go.BigFrame
theorem madeCells_rep (K n : Nat) (z : List Value) (hz : z.length = K) (hK : 0 < K) : (madeCells z.toArray (n * K)).toList = (List.replicate n z).flatten := by
  have hW : Wide K (List.replicate n z) := fun x hx => by rw [(List.mem_replicate.1 hx).2]; exact hz
  refine List.ext_getElem? fun j => ?_
  by_cases hj : j < n * K
  · have hd : j / K < n := (Nat.div_lt_iff_lt_mul hK).2 hj
    have hm : j % K < K := Nat.mod_lt _ hK
    have h1 := flat_get hW (i := j / K) (j := j % K) (by rw [List.length_replicate]; exact hd) hm
    rw [Nat.div_add_mod] at h1
    rw [h1, List.getD_eq_getElem?_getD, List.getElem?_replicate, if_pos hd]
    have hl : j < (madeCells z.toArray (n * K)).toList.length := by simp [madeCells]; omega
    rw [List.getElem?_eq_getElem hl]
    simp only [madeCells, Array.getElem_toList, Array.getElem_map, Array.getElem_range, List.size_toArray, hz]
    rw [getElem!_pos _ _ (by rw [List.size_toArray, hz]; exact hm), List.getElem_toArray]
    simp only [Option.getD_some]
    rw [List.getElem?_eq_getElem (by rw [hz]; exact hm)]
  · rw [List.getElem?_eq_none (by simp [madeCells]; omega), List.getElem?_eq_none (by rw [flat_len hW, List.length_replicate]; omega)]
theorem OwnR.made {B K g n : Nat} {e : TypeId} {w : World} (z : List Value) (hz : z.length = K) (hK : 0 < K) (h : w.ownsRow B e K (.slice (some ⟨g, 0, none⟩) n n) n (madeCells z.toArray (n * K)).toList) :
    OwnR B K e (.slice (some ⟨g, 0, none⟩) n n) (List.replicate n z) w := by
  rw [madeCells_rep K n z hz hK] at h
  unfold OwnR
  rw [List.length_replicate]
  exact h
theorem OwnR.set {B K g n c i : Nat} {e : TypeId} {C : List (List Value)} {w : World} (hK : 0 < K) (hn : n = C.length) (h : OwnR B K e (.slice (some ⟨g, 0, none⟩) n c) C w) (hW : Wide K C) (hi : i < n) (x : List Value) (hx : x.length = K) :
    OwnR B K e (.slice (some ⟨g, 0, none⟩) n c) (C.set i x) (w.setCells g (K * i) x) := by
  subst hn
  have h5 := ownsRow_layV x C.flatten (K * i) w h
  rw [← flat_set hK hW hi hx] at h5
  unfold OwnR
  rw [List.length_set]
  exact h5
theorem OwnR.there {B K g n c i : Nat} {e : TypeId} {C : List (List Value)} {w : World} (hn : n = C.length) (h : OwnR B K e (.slice (some ⟨g, 0, none⟩) n c) C w) (hW : Wide K C) (hi : i < n) : w.there g (K * i) K := by
  subst hn
  intro j hj
  have hlt : K * i + j < C.length * K := Nat.lt_of_lt_of_le (Nat.add_lt_add_left hj _) (by rw [← Nat.mul_succ, Nat.mul_comm]; exact Nat.mul_le_mul_right _ hi)
  exact ⟨by rw [World.ownsRow.cellAt h (K * i + j) hlt, List.getElem?_eq_getElem (by rw [flat_len hW]; exact hlt)]; rfl, World.ownsRow.frozenAt h (K * i + j)⟩
end Go.Proofs.Ytenmkfjgjemiiaa
namespace Go.Proofs.Ytenmkfjgjemiiaa
open Go.RowKit Go.BigFrame
def partE15 (L : List EntN) (n : Nat) : List EntN := L ++ List.replicate (n - L.length) noE
theorem partE15_len {L : List EntN} {n : Nat} (h : L.length ≤ n) : (partE15 L n).length = n := by
  rw [partE15, List.length_append, List.length_replicate]
  omega
theorem partE15_set {L : List EntN} {n : Nat} (h : L.length < n) (y : EntN) : (partE15 L n).set L.length y = partE15 (L ++ [y]) n := by
  rw [partE15, partE15, List.set_append_right _ _ (Nat.le_refl _), Nat.sub_self, show n - L.length = (n - (L ++ [y]).length) + 1 by rw [List.length_append, List.length_singleton]; omega, List.replicate_succ, List.set_cons_zero, List.append_assoc]
  rfl
theorem partE15_full (L : List EntN) : partE15 L L.length = L := by simp [partE15]
theorem OwnE15.made {B g n : Nat} {w : World} (h : w.ownsRow B 30 73 (.slice (some ⟨g, 0, none⟩) n n) n (madeCells (Value.agg (entV noE)).cells (n * 73)).toList) : OwnE15 B (.slice (some ⟨g, 0, none⟩) n n) (partE15 [] n) w := by
  refine ⟨?_, fun x hx => ?_⟩
  · have h1 := OwnR.made (entL noE) rfl (by decide) h
    rwa [show (partE15 [] n).map entL = List.replicate n (entL noE) by simp [partE15]]
  · rw [partE15, List.nil_append] at hx
    rw [(List.mem_replicate.1 hx).2]
    exact noE_ok
theorem OwnE15.set {B g n c i : Nat} {L : List EntN} {w : World} (hn : n = L.length) (h : OwnE15 B (.slice (some ⟨g, 0, none⟩) n c) L w) (hi : i < n) (y : EntN) (hy : y.Ok) :
    OwnE15 B (.slice (some ⟨g, 0, none⟩) n c) (L.set i y) (w.setCells g (73 * i) (entL y)) := by
  refine ⟨?_, fun x hx => ?_⟩
  · have h1 := OwnR.set (by decide) (by rw [List.length_map]; exact hn) h.1 (wide_map fun x hx => entL_len (h.2 x hx)) hi (entL y) (entL_len hy)
    rwa [List.map_set]
  · rcases List.mem_or_eq_of_mem_set hx with h1 | rfl
    · exact h.2 x h1
    · exact hy
theorem OwnE15.there {B g n c i : Nat} {L : List EntN} {w : World} (hn : n = L.length) (h : OwnE15 B (.slice (some ⟨g, 0, none⟩) n c) L w) (hi : i < n) : w.there g (73 * i) 73 :=
  OwnR.there (by rw [List.length_map]; exact hn) h.1 (wide_map fun x hx => entL_len (h.2 x hx)) hi
end Go.Proofs.Ytenmkfjgjemiiaa
namespace Go.Proofs.Ytenmkfjgjemiiaa
open Go.RowKit Go.ChangeShapes Go.WideShapes Go.Deep
structure DraftN.In (d : DraftN) : Prop where
  ref : IdOk d.ref
  low : -9223372036854775808 ≤ d.kind
  high : d.kind ≤ 9223372036854775807
  key : d.key.length ≤ 140737488351232
  val : d.val.length ≤ 140737488351232
theorem weights_one {H : Type} {P : Program} {t : TypeId} (bs : List UInt8) : DataW.weights (H := H) P t (.lit (.string bs)) = [bs.length] := by simp [DataW.weights]
set_option maxRecDepth 100000 in
theorem open_draft_cells {H : Type} {enc : TypeId × Value → H} {W : World} {n : Nat} {cs : List Value} {x : DataW H × List MemPlace}
    (h : DataW.trod enc Try.prog W 0 (fun _ => true) true n 28 cs = some x) (hwt : ∀ n ∈ DataW.weights Try.prog 28 x.1, n ≤ 140737488351232) :
    ∃ d : DraftN, cs = draftL d ∧ d.In := by
  obtain ⟨xs, m, _, hx, hcl, hxl, hf⟩ := DataW.trod_struct Try.underlying28 h
  have hci : Try.prog.cellsOf 3 = 1 := by kernel_rfl
  have hcs : Try.prog.cellsOf 9 = 1 := by kernel_rfl
  have hcr : Try.prog.cellsOf 26 = 32 := by kernel_rfl
  have hcd : Try.prog.cellsOf 28 = 35 := by kernel_rfl
  have hcu : Try.prog.cellsOf 5 = 1 := by kernel_rfl
  rw [hcd] at hcl
  match cs, hcl with
  | v0 :: v1 :: v2 :: r, hcl =>
  match xs, hxl with
  | [x0, x1, x2, x3], _ =>
  have t0 : DataW.trod enc Try.prog W 0 (fun _ => true) true m 3 ((v0 :: v1 :: v2 :: r).take (Try.prog.cellsOf 3)) = some x0 := hf 0 _ rfl
  have t1 : DataW.trod enc Try.prog W 0 (fun _ => true) true m 9 (((v0 :: v1 :: v2 :: r).drop 1).take (Try.prog.cellsOf 9)) = some x1 := hf 1 _ rfl
  have t2 : DataW.trod enc Try.prog W 0 (fun _ => true) true m 9 (((v0 :: v1 :: v2 :: r).drop 2).take (Try.prog.cellsOf 9)) = some x2 := hf 2 _ rfl
  have t3 : DataW.trod enc Try.prog W 0 (fun _ => true) true m 26 (((v0 :: v1 :: v2 :: r).drop 3).take (Try.prog.cellsOf 26)) = some x3 := hf 3 _ rfl
  rw [hci] at t0
  rw [hcs] at t1 t2
  rw [hcr] at t3
  simp only [List.drop_succ_cons, List.drop_zero, List.take_succ_cons, List.take_zero] at t0 t1 t2
  rw [show (v0 :: v1 :: v2 :: r).drop 3 = r from rfl, List.take_of_length_le (by simp only [List.length_cons] at hcl; omega)] at t3
  obtain ⟨k, e0, _, w0⟩ := DataW.trod_int Try.underlying3 t0
  obtain ⟨s1, e1, d1, _⟩ := DataW.trod_string Try.underlying9 t1
  obtain ⟨s2, e2, d2, _⟩ := DataW.trod_string Try.underlying9 t2
  obtain ⟨l, e3, h3, h4⟩ := trod_bytesI Try.underlying26 Try.underlying5 hcu hcr t3
  have hx1 : x.1 = .agg [x0.1, x1.1, x2.1, x3.1] := congrArg Prod.fst hx
  rw [hx1] at hwt
  simp only [DataW.weights, Try.underlying28] at hwt
  have q1 : s1.data.toList.length ≤ 140737488351232 := hwt _ (by
    simp only [List.map_cons, List.map_nil, DataW.weightsEach, List.mem_append, d1, weights_one, List.mem_singleton]
    exact .inr (.inl trivial))
  have q2 : s2.data.toList.length ≤ 140737488351232 := hwt _ (by
    simp only [List.map_cons, List.map_nil, DataW.weightsEach, List.mem_append, d2, weights_one, List.mem_singleton]
    exact .inr (.inr (.inl trivial)))
  simp only [List.cons.injEq, and_true] at e0 e1 e2
  simp only [Lit.wf, Bool.and_eq_true, decide_eq_true_eq] at w0
  refine ⟨⟨k, s1.data.toList, s2.data.toList, l⟩, ?_, ⟨h3, h4⟩, w0.1, w0.2, q1, q2⟩
  rw [e0, e1, e2, e3]
  rfl
end Go.Proofs.Ytenmkfjgjemiiaa
namespace Go.Proofs.Ytenmkfjgjemiiaa
open Go.RowKit Go.ChangeShapes Go.WideShapes Go.Deep
structure EntN.In (e : EntN) : Prop where
  d : e.d.In
  prev : IdOk e.prev
  klow : -9223372036854775808 ≤ e.kind
  khigh : e.kind ≤ 9223372036854775807
  flow : -9223372036854775808 ≤ e.src
  fhigh : e.src ≤ 9223372036854775807
  slow : -9223372036854775808 ≤ e.seq
  shigh : e.seq ≤ 9223372036854775807
  mlow : -9223372036854775808 ≤ e.mask
  mhigh : e.mask ≤ 9223372036854775807
  pay : e.pay.length ≤ 140737488351232
  sig : e.sig.length ≤ 140737488351232
theorem EntN.In.ok {e : EntN} (h : e.In) : e.Ok := ⟨h.d.ref, h.prev⟩
theorem EntN.In.fit {e : EntN} (h : e.In) : e.Fit := ⟨h.ok, by have := h.shigh; omega⟩
set_option maxRecDepth 100000 in
theorem open_ent_cells {H : Type} {enc : TypeId × Value → H} {W : World} {n : Nat} {cs : List Value} {x : DataW H × List MemPlace}
    (h : DataW.trod enc Try.prog W 0 (fun _ => true) true n 30 cs = some x) (hwt : ∀ n ∈ DataW.weights Try.prog 30 x.1, n ≤ 140737488351232) :
    ∃ e : EntN, cs = entL e ∧ e.In := by
  obtain ⟨xs, m, _, hx, hcl, hxl, hf⟩ := DataW.trod_struct Try.underlying30 h
  have hci : Try.prog.cellsOf 3 = 1 := by kernel_rfl
  have hcs : Try.prog.cellsOf 9 = 1 := by kernel_rfl
  have hcr : Try.prog.cellsOf 26 = 32 := by kernel_rfl
  have hcd : Try.prog.cellsOf 28 = 35 := by kernel_rfl
  have hce : Try.prog.cellsOf 30 = 73 := by kernel_rfl
  have hcu : Try.prog.cellsOf 5 = 1 := by kernel_rfl
  rw [hce] at hcl
  match xs, hxl with
  | [x0, x1, x2, x3, x4, x5, x6, x7], _ =>
  have t0 : DataW.trod enc Try.prog W 0 (fun _ => true) true m 3 ((cs.drop 0).take (Try.prog.cellsOf 3)) = some x0 := hf 0 _ rfl
  have t1 : DataW.trod enc Try.prog W 0 (fun _ => true) true m 28 ((cs.drop 1).take (Try.prog.cellsOf 28)) = some x1 := hf 1 _ rfl
  have t2 : DataW.trod enc Try.prog W 0 (fun _ => true) true m 3 ((cs.drop 36).take (Try.prog.cellsOf 3)) = some x2 := hf 2 _ rfl
  have t3 : DataW.trod enc Try.prog W 0 (fun _ => true) true m 3 ((cs.drop 37).take (Try.prog.cellsOf 3)) = some x3 := hf 3 _ rfl
  have t4 : DataW.trod enc Try.prog W 0 (fun _ => true) true m 26 ((cs.drop 38).take (Try.prog.cellsOf 26)) = some x4 := hf 4 _ rfl
  have t5 : DataW.trod enc Try.prog W 0 (fun _ => true) true m 3 ((cs.drop 70).take (Try.prog.cellsOf 3)) = some x5 := hf 5 _ rfl
  have t6 : DataW.trod enc Try.prog W 0 (fun _ => true) true m 9 ((cs.drop 71).take (Try.prog.cellsOf 9)) = some x6 := hf 6 _ rfl
  have t7 : DataW.trod enc Try.prog W 0 (fun _ => true) true m 9 ((cs.drop 72).take (Try.prog.cellsOf 9)) = some x7 := hf 7 _ rfl
  rw [hci] at t0 t2 t3 t5
  rw [hcs] at t6 t7
  rw [hcr] at t4
  rw [hcd] at t1
  have hx1 : x.1 = .agg [x0.1, x1.1, x2.1, x3.1, x4.1, x5.1, x6.1, x7.1] := congrArg Prod.fst hx
  rw [hx1] at hwt
  simp only [DataW.weights, Try.underlying30] at hwt
  obtain ⟨d, e1, hd⟩ := open_draft_cells t1 (fun q hq => hwt q (by
    simp only [List.map_cons, List.map_nil, DataW.weightsEach, List.mem_append]
    exact .inr (.inl hq)))
  obtain ⟨k, e0, _, w0⟩ := DataW.trod_int Try.underlying3 t0
  obtain ⟨a, e2, _, w2⟩ := DataW.trod_int Try.underlying3 t2
  obtain ⟨b, e3, _, w3⟩ := DataW.trod_int Try.underlying3 t3
  obtain ⟨l, e4, h41, h42⟩ := trod_bytesI Try.underlying26 Try.underlying5 hcu hcr t4
  obtain ⟨c, e5, _, w5⟩ := DataW.trod_int Try.underlying3 t5
  obtain ⟨s6, e6, d6, _⟩ := DataW.trod_string Try.underlying9 t6
  obtain ⟨s7, e7, d7, _⟩ := DataW.trod_string Try.underlying9 t7
  have q6 : s6.data.toList.length ≤ 140737488351232 := hwt _ (by
    simp only [List.map_cons, List.map_nil, DataW.weightsEach, List.mem_append, d6, weights_one, List.mem_singleton]
    exact .inr (.inr (.inr (.inr (.inr (.inr (.inl trivial)))))))
  have q7 : s7.data.toList.length ≤ 140737488351232 := hwt _ (by
    simp only [List.map_cons, List.map_nil, DataW.weightsEach, List.mem_append, d7, weights_one, List.mem_singleton]
    exact .inr (.inr (.inr (.inr (.inr (.inr (.inr (.inl trivial))))))))
  simp only [Lit.wf, Bool.and_eq_true, decide_eq_true_eq] at w0 w2 w3 w5
  refine ⟨⟨k, d, a, b, l, c, s6.data.toList, s7.data.toList⟩, ?_, ⟨hd, ⟨h41, h42⟩, w0.1, w0.2, w2.1, w2.2, w3.1, w3.2, w5.1, w5.2, q6, q7⟩⟩
  have hsplit : cs = (cs.drop 0).take 1 ++ ((cs.drop 1).take 35 ++ (((cs.drop 36).take 1 ++ (cs.drop 37).take 1) ++ ((cs.drop 38).take 32 ++ ((cs.drop 70).take 1 ++ ((cs.drop 71).take 1 ++ (cs.drop 72).take 1))))) := by
    have s1 : ∀ i n, cs.drop i = (cs.drop i).take n ++ cs.drop (i + n) := fun i n => by rw [← List.drop_drop, List.take_append_drop]
    have hlast : (cs.drop 72).take 1 = cs.drop 72 := List.take_of_length_le (by rw [List.length_drop]; omega)
    rw [hlast]
    conv => lhs; rw [← List.drop_zero (l := cs), s1 0 1, s1 1 35, s1 36 1, s1 37 1, s1 38 32, s1 70 1, s1 71 1]
    simp only [List.append_assoc]
  rw [hsplit, e0, e1, e2, e3, e4, e5, e6, e7]
  rfl
set_option maxRecDepth 100000 in
theorem open_ents {H : Type} {enc : TypeId × Value → H} {W : World} {v : Value} {d : DataW H} {p : List MemPlace} {base : Nat} (hv : Value.okWide Try.prog W .any base 22 v)
    (h : DataW.Trod enc Try.prog W 0 (fun _ => true) true 22 v d p) (hwt : ∀ n ∈ DataW.weights Try.prog 22 d, n ≤ 140737488351232) :
    ∃ (ao : Option Addr) (L : List EntN) (cap : Nat), v = .slice ao L.length cap ∧ EntsAt ao L W ∧ (∀ x ∈ L, x.In) ∧ L.length ≤ 140737488351232 :=
  open_row 22 30 73 entL EntN.In noE Try.underlying22 (by kernel_rfl) (by decide) (by rw [show Try.prog.bytesOf 30 = 168 by kernel_rfl]; decide) (fun y hy => entL_len hy.ok) (fun _ _ _ h hw => open_ent_cells h hw) hv h hwt
end Go.Proofs.Ytenmkfjgjemiiaa
namespace Go.Proofs.Ytenmkfjgjemiiaa
open Go.RowKit Go.ChangeShapes Go.WideShapes Go.Deep
structure OutN where
  mask : Int
  pay : List UInt8
def outL (x : OutN) : List Value := [.int .i64 x.mask, .string ⟨x.pay.toArray⟩]
structure OutN.In (x : OutN) : Prop where
  low : -9223372036854775808 ≤ x.mask
  high : x.mask ≤ 9223372036854775807
  pay : x.pay.length ≤ 140737488351232
set_option maxRecDepth 100000 in
theorem open_out_cells {H : Type} {enc : TypeId × Value → H} {W : World} {n : Nat} {cs : List Value} {x : DataW H × List MemPlace}
    (h : DataW.trod enc Try.prog W 0 (fun _ => true) true n 35 cs = some x) (hwt : ∀ n ∈ DataW.weights Try.prog 35 x.1, n ≤ 140737488351232) :
    ∃ e : OutN, cs = outL e ∧ e.In := by
  obtain ⟨xs, m, _, hx, hcl, hxl, hf⟩ := DataW.trod_struct Try.underlying35 h
  have hci : Try.prog.cellsOf 3 = 1 := by kernel_rfl
  have hcs : Try.prog.cellsOf 9 = 1 := by kernel_rfl
  have hco : Try.prog.cellsOf 35 = 2 := by kernel_rfl
  rw [hco] at hcl
  match xs, hxl, cs, hcl with
  | [x0, x1], _, [v0, v1], _ =>
  have t0 : DataW.trod enc Try.prog W 0 (fun _ => true) true m 3 (([v0, v1].drop 0).take (Try.prog.cellsOf 3)) = some x0 := hf 0 _ rfl
  have t1 : DataW.trod enc Try.prog W 0 (fun _ => true) true m 9 (([v0, v1].drop 1).take (Try.prog.cellsOf 9)) = some x1 := hf 1 _ rfl
  rw [hci] at t0
  rw [hcs] at t1
  have hx1 : x.1 = .agg [x0.1, x1.1] := congrArg Prod.fst hx
  rw [hx1] at hwt
  simp only [DataW.weights, Try.underlying35] at hwt
  obtain ⟨k, e0, _, w0⟩ := DataW.trod_int Try.underlying3 t0
  obtain ⟨s1, e1, d1, _⟩ := DataW.trod_string Try.underlying9 t1
  have q1 : s1.data.toList.length ≤ 140737488351232 := hwt _ (by
    simp only [List.map_cons, List.map_nil, DataW.weightsEach, List.mem_append, d1, weights_one, List.mem_singleton]
    exact .inr (.inl trivial))
  simp only [Lit.wf, Bool.and_eq_true, decide_eq_true_eq] at w0
  simp only [List.drop_succ_cons, List.drop_zero, List.take_succ_cons, List.take_zero, List.cons.injEq, and_true] at e0 e1
  exact ⟨⟨k, s1.data.toList⟩, by rw [e0, e1]; rfl, w0.1, w0.2, q1⟩
set_option maxRecDepth 100000 in
theorem open_outs {H : Type} {enc : TypeId × Value → H} {W : World} {v : Value} {d : DataW H} {p : List MemPlace} {base : Nat} (hv : Value.okWide Try.prog W .any base 23 v)
    (h : DataW.Trod enc Try.prog W 0 (fun _ => true) true 23 v d p) (hwt : ∀ n ∈ DataW.weights Try.prog 23 d, n ≤ 140737488351232) :
    ∃ (ao : Option Addr) (L : List OutN) (cap : Nat), v = .slice ao L.length cap ∧ RAt 2 ao (L.map outL) W ∧ (∀ x ∈ L, x.In) ∧ L.length ≤ 140737488351232 :=
  open_row 23 35 2 outL OutN.In ⟨0, []⟩ Try.underlying23 (by kernel_rfl) (by decide) (by rw [show Try.prog.bytesOf 35 = 24 by kernel_rfl]; decide) (fun _ _ => rfl) (fun _ _ _ h hw => open_out_cells h hw) hv h hwt
end Go.Proofs.Ytenmkfjgjemiiaa
namespace Go.Proofs.Ytenmkfjgjemiiaa
open Go.RowKit Go.BigFrame
theorem Try.sizeOut2 : (Try.prog.info? 35).map (·.size) = some 2 := by kernel_rfl
set_option maxHeartbeats 8000000 in
set_option maxRecDepth 100000 in
theorem dev_outs15 (ao : Option Addr) (L : List OutN) (c : Nat) (w : World) (hn : L.length ≤ 1000000) (hp : RAt 2 ao (L.map outL) w) :
    Calls Try.prog 14 #[.slice ao L.length c] w fun e w' => (∃ v, e = .returned v ∧ OwnE15 w.heap.size v (L.map fun o => outE o.mask o.pay) w') ∧ Below w.heap.size w w' := by
  have HP := Lib.hid hp
  obtain ⟨n, hnn⟩ : ∃ n, L.length = n := ⟨_, rfl⟩
  have HNN := Shut.mk hnn
  rw [hnn] at hn ⊢
  have HCN := Lib.hid hn
  obtain ⟨bytes, hby, hinfo⟩ := Try.infoE73
  obtain ⟨i0, hi, hz0, hz1, hz2⟩ := info_parts hinfo
  have HIF := Lib.hid hi
  have HZ0 := Lib.hid hz0
  have HZ1 := Lib.hid hz1
  have HZ2 := Lib.hid (show i0.bytes * n ≤ 281474976710656 by rw [hz2]; exact Nat.le_trans (Nat.mul_le_mul hby hn) (by decide))
  have HZO := Lib.hid (show (Try.prog.info? 35).bind (·.zero) = some (.agg ([.int .i64 0, .string ⟨#[]⟩] : List Value).toArray) by kernel_rfl)
  clear hi hz0 hz1 hz2 hby hinfo hnn hp
  go_enter Try.func14, Try.ntmps14
  go_wp2_with (at_make; refine wpList_make_full _ rfl _ _ 22 rfl w.heap.size 30 i0 _ 73 Try.underlying22 HIF.out HZ0.out HZ1.out .i64 .i64 _ _ n rfl rfl rfl rfl HZ2.out (by have := HCN.out; unfold maxLen; omega) (Nat.le_refl _) ?_)
  intro w3 ho3 hg3
  have hb3 : Below w.heap.size w w3 := (Below.refl w.heap.size w).grown hg3 (Nat.le_refl _) (by intro g hg; cases hg)
  have HO3 := Lib.hid (show OwnE15 w.heap.size (.slice (some ⟨w.heap.size, 0, none⟩) n n) (partE15 [] n) w3 from OwnE15.made ho3)
  have HB3 := Lib.hid hb3
  obtain ⟨g, hg⟩ : ∃ g, g = w.heap.size := ⟨_, rfl⟩
  rw [← hg] at HO3 ⊢
  have HGE := Shut.mk hg
  clear ho3 hg3 hb3 hg
  go_wp2_with fail
  go_loopw [11] (fun i wr => ∃ k : Nat, k ≤ n ∧ i = .int .i64 k ∧ OwnE15 g (.slice (some ⟨g, 0, none⟩) n n) (partE15 ((L.take k).map fun o => outE o.mask o.pay) n) wr ∧ Below w.heap.size w wr) (fun i _ => n - (intOf i).toNat)
  case atStart => exact ⟨0, Nat.zero_le _, rfl, HO3.out, HB3.out⟩
  case round =>
    clear HO3 HB3
    obtain ⟨k, hk, rfl, hown, hb⟩ := hrel
    have HO := Lib.hid hown
    have HBW := Lib.hid hb
    have HPW := Lib.hid (HP.out.below hb)
    clear hown hb
    by_cases hkn : k < n
    · obtain ⟨y, hy⟩ : ∃ y, L[k]? = some y := ⟨_, List.getElem?_eq_getElem (by rw [HNN.out]; exact hkn)⟩
      have hyk : L[k]'(by rw [HNN.out]; exact hkn) = y := by
        rw [List.getElem?_eq_getElem (by rw [HNN.out]; exact hkn)] at hy
        exact Option.some.inj hy
      obtain ⟨M, hM⟩ : ∃ M, ((L.take k).map fun o => outE o.mask o.pay) = M := ⟨_, rfl⟩
      have HMN := Shut.mk (show ((L.take (k + 1)).map fun o => outE o.mask o.pay) = M ++ [outE y.mask y.pay] by
        rw [List.take_succ_eq_append_getElem (by rw [HNN.out]; exact hkn), List.map_append, hM, hyk]
        rfl)
      have HML := Lib.hid (show M.length = k by rw [← hM, List.length_map, List.length_take, HNN.out]; omega)
      rw [hM] at HO
      obtain ⟨b, ob, rfl, hbl, hr⟩ := HPW.out.getM hy
      have HR := Lib.hid hr
      obtain ⟨m, p⟩ := y
      have HSO := Lib.hid (show (Try.prog.info? 35).map (·.size) = some (outL ⟨m, p⟩).length from Try.sizeOut2)
      have HVA := Lib.hid (show (outOV m p).all (·.oneCell') = true by simp [outOV, Value.oneCell'])
      have HOD := Lib.hid (fun w' => dev_out15 m p w')
      clear hy hyk hr hbl hM
      go_wp2_with (first
        | (refine wpList_load_mid rfl 35 _ rfl b (ob + k * 2) rfl _ _ HR.out Try.underlying35 rfl HSO.out ?_)
        | (refine wpList_alloc_of rfl 35 rfl [.int .i64 0, .string ⟨#[]⟩] HZO.out ?_)
        | (refine wpList_store_cells rfl 35 _ _ rfl rfl wr.heap.size #[.int .i64 0, .string ⟨#[]⟩] (outOV m p) 35 rfl rfl (heap_alloc_new wr _) Try.sizeOut2 rfl HVA.out ?_))
      intro w4 hc hb
      have hb4 : Below wr.heap.size wr w4 := But.toBelow ((Below.refl _ wr).alloc (Nat.le_refl _) _) hb.out (Nat.le_refl _) (by rw [World.size_alloc]; exact Nat.le_succ _)
      have HC4 := Lib.hid hc.out
      have HB4 := Lib.hid hb4
      obtain ⟨g4, hg4⟩ : ∃ g, wr.heap.size = g := ⟨_, rfl⟩
      rw [hg4] at HC4 ⊢
      clear hc hb hb4 hg4 HR
      go_wp2_with (first | (refine wpList_load_cells rfl 35 _ rfl g4 (outOV m p) 35 _ rfl HC4.out Try.underlying35 rfl Try.sizeOut2 ?_))
      refine (HOD.out w4).mono ?_
      rintro e w5 ⟨rfl, hb⟩
      have HB5 := Lib.hid (HB4.out.trans (hb.mono HB4.out.size))
      have HO5 := Lib.hid (HO.out.below HB5.out)
      obtain ⟨oo, hoo⟩ : ∃ oo, outE m p = oo := ⟨_, rfl⟩
      have HOK := Lib.hid (show oo.Ok by rw [← hoo]; exact outE_ok m p)
      have HMN2 := Shut.mk (show ((L.take (k + 1)).map fun o => outE o.mask o.pay) = M ++ [oo] by rw [HMN.out, ← hoo])
      rw [hoo]
      have HPL := Lib.hid (show n = (partE15 M n).length from (partE15_len (by rw [HML.out]; omega)).symm)
      have HTH := Lib.hid (HO5.out.there HPL.out hkn)
      have HPS := Shut.mk (show (partE15 M n).set k oo = partE15 (M ++ [oo]) n by
        have h := partE15_set (L := M) (n := n) (by rw [HML.out]; exact hkn) oo
        rwa [HML.out] at h)
      have HV73 := Lib.hid (show (entV oo).size = 73 from entV_size HOK.out)
      have HSV := Lib.hid (sizeEV HOK.out)
      clear hb HB4 HO HC4 hoo HMN HOD
      go_wp2_with (first
        | (refine wpList_store_mid rfl 30 _ _ rfl g (k * 73) _ rfl rfl (by rw [HV73.out, Nat.mul_comm]; exact HTH.out) HSV.out (entV_all oo) ?_))
      have hset := HO5.out.set HPL.out hkn oo HOK.out
      rw [HPS.out, show entL oo = (entV oo).toList from rfl, Nat.mul_comm 73 k] at hset
      have hbw := But.cells (entV oo).toList (k * 73) w5 (But.refl g w5)
      exact ⟨⟨k + 1, by omega, by go_num, by rw [HMN2.out]; exact hset, But.toBelow (HBW.out.trans (HB5.out.mono HBW.out.size)) hbw (by rw [HGE.out]; exact Nat.le_refl _) (Nat.le_trans HBW.out.size HB5.out.size)⟩, by simp [intOf]; omega⟩
    · obtain rfl : k = n := by omega
      have HPF := Shut.mk (show partE15 ((L.take k).map fun o => outE o.mask o.pay) k = L.map fun o => outE o.mask o.pay by
        rw [List.take_of_length_le (by rw [HNN.out]; exact Nat.le_refl _)]
        have h := partE15_full (L.map fun o => outE o.mask o.pay)
        rwa [List.length_map, HNN.out] at h)
      rw [HPF.out] at HO
      go_wp2_with fail
      go_ret
      exact ⟨⟨_, rfl, HO.out.mono (by rw [HGE.out]; exact Nat.le_refl _)⟩, HBW.out⟩
end Go.Proofs.Ytenmkfjgjemiiaa
namespace Go.Proofs.Ytenmkfjgjemiiaa
open Go.RowKit Go.BigFrame
theorem EntN.In.len {e : EntN} (h : e.In) : e.Len := ⟨h.ok, h.d.key, h.d.val, h.pay, h.sig⟩
def great15N (e : EntN) : Bool := decide (20000 < e.pay.length ∨ 2000 < e.sig.length ∨ 200 < e.d.key.length ∨ 200 < e.d.val.length)
set_option maxHeartbeats 1000000 in
set_option maxRecDepth 100000 in
theorem great15_any (e : EntN) (he : e.Len) (w : World) :
    Calls Try.prog 9 #[.agg (entV e)] w fun r w' => r = .returned (.bool (great15N e)) ∧ Below w.heap.size w w' := by
  have hx : Cells w.heap.size 30 (entV e) (w.alloc (.cells (entV e) 30)) := heap_alloc_new w _
  have hb : Below w.heap.size w (w.alloc (.cells (entV e) 30)) := (Below.refl _ _).alloc (Nat.le_refl _) _
  obtain ⟨_, cd, _, _, _, _, c71, c72⟩ := ent_cells he.ok hx
  obtain ⟨_, c2, c3, _⟩ := draft_mid cd
  have HB := Lib.hid hb
  have hy := he.pay
  have hs := he.sig
  have hk := he.key
  have hv := he.val
  obtain ⟨yl, hyl⟩ : ∃ n, e.pay.length = n := ⟨_, rfl⟩
  obtain ⟨sl, hsl⟩ : ∃ n, e.sig.length = n := ⟨_, rfl⟩
  obtain ⟨kl, hkl⟩ : ∃ n, e.d.key.length = n := ⟨_, rfl⟩
  obtain ⟨vl, hvl⟩ : ∃ n, e.d.val.length = n := ⟨_, rfl⟩
  have HG := Shut.mk (show great15N e = decide (20000 < yl ∨ 2000 < sl ∨ 200 < kl ∨ 200 < vl) by rw [great15N, hyl, hsl, hkl, hvl])
  rw [hyl] at hy
  rw [hsl] at hs
  rw [hkl] at hk
  rw [hvl] at hv
  clear hx hb cd he
  by_cases h1 : 20000 < yl
  · have h1i : decide ((20000 : Int) < (yl : Int)) = true := decide_eq_true (by omega)
    have HR := Shut.mk (HG.out.trans (decide_eq_true (by omega)))
    go_enter Try.func9, Try.ntmps9
    go_wp2_with fail
    go_ret
    exact ⟨by rw [HR.out]; rfl, HB.out⟩
  have h1i : decide ((20000 : Int) < (yl : Int)) = false := decide_eq_false (by omega)
  by_cases h2 : 2000 < sl
  · have h2i : decide ((2000 : Int) < (sl : Int)) = true := decide_eq_true (by omega)
    have HR := Shut.mk (HG.out.trans (decide_eq_true (by omega)))
    go_enter Try.func9, Try.ntmps9
    go_wp2_with fail
    go_ret
    exact ⟨by rw [HR.out]; rfl, HB.out⟩
  have h2i : decide ((2000 : Int) < (sl : Int)) = false := decide_eq_false (by omega)
  by_cases h3 : 200 < kl
  · have h3i : decide ((200 : Int) < (kl : Int)) = true := decide_eq_true (by omega)
    have HR := Shut.mk (HG.out.trans (decide_eq_true (by omega)))
    go_enter Try.func9, Try.ntmps9
    go_wp2_with fail
    go_ret
    exact ⟨by rw [HR.out]; rfl, HB.out⟩
  have h3i : decide ((200 : Int) < (kl : Int)) = false := decide_eq_false (by omega)
  by_cases h4 : 200 < vl
  · have h4i : decide ((200 : Int) < (vl : Int)) = true := decide_eq_true (by omega)
    have HR := Shut.mk (HG.out.trans (decide_eq_true (by omega)))
    go_enter Try.func9, Try.ntmps9
    go_wp2_with fail
    go_ret
    exact ⟨by rw [HR.out]; rfl, HB.out⟩
  have h4i : decide ((200 : Int) < (vl : Int)) = false := decide_eq_false (by omega)
  have HR := Shut.mk (HG.out.trans (decide_eq_false (by omega)))
  go_enter Try.func9, Try.ntmps9
  go_wp2_with fail
  go_ret
  exact ⟨by rw [HR.out]; rfl, HB.out⟩
end Go.Proofs.Ytenmkfjgjemiiaa
namespace Go.Proofs.Ytenmkfjgjemiiaa
open Go.RowKit Go.BigFrame
theorem nil_beq_dec (v : List UInt8) : (v == []) = decide (v = []) := by cases v <;> simp
theorem noD_iff (d : DraftN) : d = noD ↔ d.kind = 0 ∧ d.key = [] ∧ d.val = [] ∧ d.ref = zeroI := by
  obtain ⟨a, b, c, r⟩ := d
  simp [noD]
set_option maxHeartbeats 4000000 in
set_option maxRecDepth 100000 in
theorem ref_good15 (e : EntN) (he : e.Len) (w : World) :
    Calls Try.prog 11 #[.agg (entV e)] w fun r w' => r = .returned (.bool (decide (GoodE e))) ∧ Below w.heap.size w w' := by
  have hx : Cells w.heap.size 30 (entV e) (w.alloc (.cells (entV e) 30)) := heap_alloc_new w _
  have hb : Below w.heap.size w (w.alloc (.cells (entV e) 30)) := (Below.refl _ _).alloc (Nat.le_refl _) _
  have HX := Lib.hid hx
  have HB := Lib.hid hb
  have HE := Lib.hid he
  have HGD := Lib.hid (fun w' => ref_goodDraft e.d he.ok.ref he.key he.val w')
  clear hx hb he
  obtain ⟨out, hout⟩ : ∃ b, decide (OutE e) = b := ⟨_, rfl⟩
  obtain ⟨non, hnon⟩ : ∃ b, decide (e.d = noD) = b := ⟨_, rfl⟩
  obtain ⟨bare, hbare⟩ : ∃ b, decide (BareE e) = b := ⟨_, rfl⟩
  obtain ⟨gd, hgd⟩ : ∃ b, decide (GoodD e.d) = b := ⟨_, rfl⟩
  have HO := Shut.mk hout
  have HN := Shut.mk hnon
  have HR := Shut.mk hbare
  have HG := Shut.mk hgd
  rw [hgd] at HGD
  clear hout hnon hbare hgd
  go_enter Try.func11, Try.ntmps11
  go_upto_region 1 with (fail)
  obtain ⟨w1, hw1⟩ : ∃ x, x = w.alloc (.cells (entV e) 30) := ⟨_, rfl⟩
  rw [← hw1] at HX HB ⊢
  clear hw1
  obtain ⟨c0, cd, cf, cq, cp, cm, cy, cs⟩ := ent_cells HE.out.ok HX.out
  obtain ⟨d0, d1, d2, d3⟩ := draft_mid cd
  have HCD := Lib.hid cd
  have HCP := Lib.hid cp
  have HD3 := Lib.hid d3
  have HSI := Lib.hid (show (Try.prog.info? 26).map (·.size) = some (nums .u8 e.d.ref).length by rw [nums_len, HE.out.ok.ref.1]; exact Try.sizeI)
  have HSP := Lib.hid (show (Try.prog.info? 26).map (·.size) = some (nums .u8 e.prev).length by rw [nums_len, HE.out.ok.prev.1]; exact Try.sizeI)
  have HSD := Lib.hid (show (Try.prog.info? 28).map (·.size) = some (draftL e.d).length by rw [draftL_len HE.out.ok.ref.1]; exact Try.sizeD)
  have heq := fun w' => equal_idI e.d.ref zeroI HE.out.ok.ref.1 zeroI_ok.1 HE.out.ok.ref.2 zeroI_ok.2 w'
  have hpq := fun w' => equal_idI e.prev zeroI HE.out.ok.prev.1 zeroI_ok.1 HE.out.ok.prev.2 zeroI_ok.2 w'
  rw [zeroI_lit] at heq hpq
  have HEQ := Lib.hid heq
  have HPQ := Lib.hid hpq
  clear cd cp d3 heq hpq
  obtain ⟨k, hk⟩ : ∃ x, e.kind = x := ⟨_, rfl⟩
  obtain ⟨dk, hdk⟩ : ∃ x, e.d.kind = x := ⟨_, rfl⟩
  obtain ⟨f, hf⟩ : ∃ x, e.src = x := ⟨_, rfl⟩
  obtain ⟨q, hq⟩ : ∃ x, e.seq = x := ⟨_, rfl⟩
  obtain ⟨m, hm⟩ : ∃ x, e.mask = x := ⟨_, rfl⟩
  obtain ⟨yl, hyl⟩ : ∃ n, e.pay.length = n := ⟨_, rfl⟩
  obtain ⟨sl, hsl⟩ : ∃ n, e.sig.length = n := ⟨_, rfl⟩
  have HOE := Shut.mk (show OutE e ↔ 1 ≤ m ∧ m ≤ 31 ∧ yl ≤ 2048 by rw [OutE, hm, hyl])
  have HNE := Shut.mk (show e.d = noD ↔ dk = 0 ∧ e.d.key = [] ∧ e.d.val = [] ∧ e.d.ref = zeroI by
    rw [← hdk]
    exact noD_iff e.d)
  have HBE := Shut.mk (show BareE e ↔ f = 0 ∧ q = 0 ∧ e.prev = zeroI ∧ e.sig = [] by rw [BareE, hf, hq])
  have HGE := Shut.mk (show GoodE e ↔ (k = 1 ∧ gd = true ∧ bare = true ∧ m = 0 ∧ e.pay = []) ∨ (k = 2 ∧ out = true ∧ non = true ∧ 0 ≤ f ∧ f ≤ 4 ∧ 1 ≤ q ∧ sl ≤ 1024) ∨ (k = 3 ∧ out = true ∧ non = true ∧ bare = true) by
    rw [GoodE, hk, hm, hf, hq, hsl, ← HO.out, ← HN.out, ← HR.out, ← HG.out]
    simp only [decide_eq_true_eq])
  rw [hk] at c0
  rw [hdk] at d0
  rw [hf] at cf
  rw [hq] at cq
  rw [hm] at cm
  clear hk hdk hf hq hm
  go_cut [3] from 6 to 20 (fun s wx => s = .bool out ∧ wx = w1)
  case first =>
    by_cases h1 : 1 ≤ m
    · have g1 : decide (1 ≤ m) = true := decide_eq_true h1
      by_cases h2 : m ≤ 31
      · have g2 : decide (m ≤ 31) = true := decide_eq_true h2
        by_cases h3 : yl ≤ 2048
        · have g3 : decide ((yl : Int) ≤ 2048) = true := decide_eq_true (by omega)
          go_wp2_with fail
          go_meet
          case rel => exact ⟨by rw [← HO.out, decide_eq_true (HOE.out.2 ⟨h1, h2, h3⟩)], rfl⟩
        · have g3 : decide ((yl : Int) ≤ 2048) = false := decide_eq_false (by omega)
          go_wp2_with fail
          go_meet
          case rel => exact ⟨by rw [← HO.out, decide_eq_false (fun h => by have := (HOE.out.1 h).2.2; omega)], rfl⟩
      · have g2 : decide (m ≤ 31) = false := decide_eq_false h2
        go_wp2_with fail
        go_meet
        case rel => exact ⟨by rw [← HO.out, decide_eq_false (fun h => by have := (HOE.out.1 h).2.1; omega)], rfl⟩
    · have g1 : decide (1 ≤ m) = false := decide_eq_false h1
      go_wp2_with fail
      go_meet
      case rel => exact ⟨by rw [← HO.out, decide_eq_false (fun h => by have := (HOE.out.1 h).1; omega)], rfl⟩
  case rest =>
  obtain ⟨rfl, hwc⟩ := hcut
  rw [hwc]
  clear hwc
  clear HOE
  obtain ⟨kb, hkb⟩ : ∃ b, (e.d.key == []) = b := ⟨_, rfl⟩
  obtain ⟨vb, hvb⟩ : ∃ b, (e.d.val == []) = b := ⟨_, rfl⟩
  obtain ⟨sb, hsb⟩ : ∃ b, (e.sig == []) = b := ⟨_, rfl⟩
  obtain ⟨yb, hyb⟩ : ∃ b, (e.pay == []) = b := ⟨_, rfl⟩
  obtain ⟨rb, hrb⟩ : ∃ b, (e.d.ref == zeroI) = b := ⟨_, rfl⟩
  obtain ⟨pb, hpb⟩ : ∃ b, (e.prev == zeroI) = b := ⟨_, rfl⟩
  have HNB := Shut.mk (show non = (decide (dk = 0) && kb && vb && rb) by
    rw [← HN.out, ← hkb, ← hvb, ← hrb, nil_beq_dec, nil_beq_dec, Bool.eq_iff_iff]
    simp only [decide_eq_true_eq, Bool.and_eq_true, beq_iff_eq]
    rw [HNE.out]
    exact ⟨fun ⟨a, b, c, d⟩ => ⟨⟨⟨a, b⟩, c⟩, d⟩, fun ⟨⟨⟨a, b⟩, c⟩, d⟩ => ⟨a, b, c, d⟩⟩)
  have HBB := Shut.mk (show bare = (decide (f = 0) && decide (q = 0) && pb && sb) by
    rw [← HR.out, ← hpb, ← hsb, nil_beq_dec, Bool.eq_iff_iff]
    simp only [decide_eq_true_eq, Bool.and_eq_true, beq_iff_eq]
    rw [HBE.out]
    exact ⟨fun ⟨a, b, c, d⟩ => ⟨⟨⟨a, b⟩, c⟩, d⟩, fun ⟨⟨⟨a, b⟩, c⟩, d⟩ => ⟨a, b, c, d⟩⟩)
  have HYB := Shut.mk hyb
  rw [hrb] at HEQ
  rw [hpb] at HPQ
  clear HNE HBE hrb hpb
  go_upto_region 2 with (fail)
  go_cut [4] from 20 to 43 (fun s wx => s = .bool non ∧ wx = w1)
  case first =>
    have heq := HEQ.out
    by_cases h1 : dk = 0
    · have g1 : (dk == 0) = true := by simp [h1]
      rw [decide_eq_true h1, Bool.true_and] at HNB
      cases kb with
      | false =>
        go_wp2_with fail
        go_meet
        case rel => exact ⟨by rw [HNB.out]; rfl, rfl⟩
      | true =>
        cases vb with
        | false =>
          go_wp2_with fail
          go_meet
          case rel => exact ⟨by rw [HNB.out]; rfl, rfl⟩
        | true =>
          go_wp2_with (refine wpList_load_mid_want (by rfl) 26 _ rfl w.heap.size 4 rfl _ _ HD3.out Try.underlying26 rfl HSI.out ?_)
          go_meet
          case rel => exact ⟨by rw [HNB.out]; rfl, rfl⟩
    · have g1 : (dk == 0) = false := by simp [h1]
      rw [decide_eq_false h1] at HNB
      go_wp2_with fail
      go_meet
      case rel => exact ⟨by rw [HNB.out]; rfl, rfl⟩
  case rest =>
  obtain ⟨rfl, hwc⟩ := hcut
  rw [hwc]
  clear hwc HNB HEQ HD3 HSI
  go_upto_region 3 with (fail)
  go_cut [5] from 43 to 62 (fun s wx => s = .bool bare ∧ wx = w1)
  case first =>
    have heq := HPQ.out
    by_cases h1 : f = 0
    · have g1 : (f == 0) = true := by simp [h1]
      rw [decide_eq_true h1, Bool.true_and] at HBB
      by_cases h2 : q = 0
      · have g2 : (q == 0) = true := by simp [h2]
        rw [decide_eq_true h2, Bool.true_and] at HBB
        cases pb with
        | false =>
          go_wp2_with (refine wpList_load_mid_want (by rfl) 26 _ rfl w.heap.size 38 rfl _ _ HCP.out Try.underlying26 rfl HSP.out ?_)
          go_meet
          case rel => exact ⟨by rw [HBB.out]; rfl, rfl⟩
        | true =>
          go_wp2_with (refine wpList_load_mid_want (by rfl) 26 _ rfl w.heap.size 38 rfl _ _ HCP.out Try.underlying26 rfl HSP.out ?_)
          go_meet
          case rel => exact ⟨by rw [HBB.out]; rfl, rfl⟩
      · have g2 : (q == 0) = false := by simp [h2]
        rw [decide_eq_false h2] at HBB
        go_wp2_with fail
        go_meet
        case rel => exact ⟨by rw [HBB.out]; rfl, rfl⟩
    · have g1 : (f == 0) = false := by simp [h1]
      rw [decide_eq_false h1] at HBB
      go_wp2_with fail
      go_meet
      case rel => exact ⟨by rw [HBB.out]; rfl, rfl⟩
  case rest =>
  obtain ⟨rfl, hwc⟩ := hcut
  rw [hwc]
  clear hwc HBB HPQ HCP HSP
  by_cases h1 : k = 1
  · have g1 : (k == 1) = true := by simp [h1]
    have HZ := Shut.mk (show decide (GoodE e) = (gd && bare && decide (m = 0) && yb) by
      rw [← HYB.out, nil_beq_dec, Bool.eq_iff_iff]
      simp only [decide_eq_true_eq, Bool.and_eq_true]
      rw [HGE.out]
      constructor
      · rintro (⟨_, a, b, c, d⟩ | ⟨h, _⟩ | ⟨h, _⟩)
        · exact ⟨⟨⟨a, b⟩, c⟩, d⟩
        · omega
        · omega
      · rintro ⟨⟨⟨a, b⟩, c⟩, d⟩
        exact .inl ⟨h1, a, b, c, d⟩)
    clear h1
    go_wp2_with (refine wpList_load_mid rfl 28 _ rfl w.heap.size 1 rfl _ _ HCD.out Try.underlying28 rfl HSD.out ?_)
    refine (HGD.out w1).mono ?_
    rintro r w2 ⟨rfl, hb⟩
    have HB2 := Lib.hid (HB.out.trans (hb.mono HB.out.size))
    have hg := HX.out.lt
    have cm2 := (hb.cell (p := ⟨w.heap.size, 70, none⟩) hg).trans cm
    have cy2 := (hb.cell (p := ⟨w.heap.size, 71, none⟩) hg).trans cy
    clear hb HB hg cm cy
    cases gd with
    | false =>
      go_wp2_with fail
      go_ret
      exact ⟨by rw [HZ.out]; rfl, HB2.out⟩
    | true =>
      cases bare with
      | false =>
        go_wp2_with fail
        go_ret
        exact ⟨by rw [HZ.out]; rfl, HB2.out⟩
      | true =>
        by_cases h2 : m = 0
        · have g2 : (m == 0) = true := by simp [h2]
          rw [decide_eq_true h2] at HZ
          go_wp2_with fail
          go_ret
          exact ⟨by rw [HZ.out]; rfl, HB2.out⟩
        · have g2 : (m == 0) = false := by simp [h2]
          rw [decide_eq_false h2] at HZ
          go_wp2_with fail
          go_ret
          exact ⟨by rw [HZ.out]; rfl, HB2.out⟩
  have g1 : (k == 1) = false := by simp [h1]
  by_cases h2 : k = 2
  · have g2 : (k == 2) = true := by simp [h2]
    have HZ := Shut.mk (show decide (GoodE e) = (out && non && decide (0 ≤ f) && decide (f ≤ 4) && decide (1 ≤ q) && decide ((sl : Int) ≤ 1024)) by
      rw [Bool.eq_iff_iff]
      simp only [decide_eq_true_eq, Bool.and_eq_true]
      rw [HGE.out]
      constructor
      · rintro (⟨h, _⟩ | ⟨_, a, b, c, d, x, y⟩ | ⟨h, _⟩)
        · omega
        · exact ⟨⟨⟨⟨⟨a, b⟩, c⟩, d⟩, x⟩, by omega⟩
        · omega
      · rintro ⟨⟨⟨⟨⟨a, b⟩, c⟩, d⟩, x⟩, y⟩
        exact .inr (.inl ⟨h2, a, b, c, d, x, by omega⟩))
    clear h1 h2
    obtain ⟨b1, hb1⟩ : ∃ b, decide (0 ≤ f) = b := ⟨_, rfl⟩
    obtain ⟨b2, hb2⟩ : ∃ b, decide (f ≤ 4) = b := ⟨_, rfl⟩
    obtain ⟨b3, hb3⟩ : ∃ b, decide (1 ≤ q) = b := ⟨_, rfl⟩
    obtain ⟨b4, hb4⟩ : ∃ b, decide ((sl : Int) ≤ 1024) = b := ⟨_, rfl⟩
    rw [hb1, hb2, hb3, hb4] at HZ
    cases out with
    | false =>
      go_wp2_with fail
      go_ret
      exact ⟨by rw [HZ.out]; rfl, HB.out⟩
    | true =>
    cases non with
    | false =>
      go_wp2_with fail
      go_ret
      exact ⟨by rw [HZ.out]; rfl, HB.out⟩
    | true =>
    cases b1 with
    | false =>
      go_wp2_with fail
      go_ret
      exact ⟨by rw [HZ.out]; rfl, HB.out⟩
    | true =>
    cases b2 with
    | false =>
      go_wp2_with fail
      go_ret
      exact ⟨by rw [HZ.out]; rfl, HB.out⟩
    | true =>
    cases b3 with
    | false =>
      go_wp2_with fail
      go_ret
      exact ⟨by rw [HZ.out]; rfl, HB.out⟩
    | true =>
    cases b4 with
    | false =>
      go_wp2_with fail
      go_ret
      exact ⟨by rw [HZ.out]; rfl, HB.out⟩
    | true =>
      go_wp2_with fail
      go_ret
      exact ⟨by rw [HZ.out]; rfl, HB.out⟩
  have g2 : (k == 2) = false := by simp [h2]
  have HZ := Shut.mk (show decide (GoodE e) = (decide (k = 3) && out && non && bare) by
    rw [Bool.eq_iff_iff]
    simp only [decide_eq_true_eq, Bool.and_eq_true]
    rw [HGE.out]
    constructor
    · rintro (⟨h, _⟩ | ⟨h, _⟩ | ⟨a, b, c, d⟩)
      · omega
      · omega
      · exact ⟨⟨⟨a, b⟩, c⟩, d⟩
    · rintro ⟨⟨⟨a, b⟩, c⟩, d⟩
      exact .inr (.inr ⟨a, b, c, d⟩))
  by_cases h3 : k = 3
  · have g3 : (k == 3) = true := by simp [h3]
    rw [decide_eq_true h3] at HZ
    clear h1 h2 h3
    cases out with
    | false =>
      go_wp2_with fail
      go_ret
      exact ⟨by rw [HZ.out]; rfl, HB.out⟩
    | true =>
    cases non with
    | false =>
      go_wp2_with fail
      go_ret
      exact ⟨by rw [HZ.out]; rfl, HB.out⟩
    | true =>
      go_wp2_with fail
      go_ret
      exact ⟨by rw [HZ.out]; rfl, HB.out⟩
  · have g3 : (k == 3) = false := by simp [h3]
    rw [decide_eq_false h3] at HZ
    clear h1 h2 h3
    go_wp2_with fail
    go_ret
    exact ⟨by rw [HZ.out]; rfl, HB.out⟩
end Go.Proofs.Ytenmkfjgjemiiaa
namespace Go.Proofs.Ytenmkfjgjemiiaa
open Go.RowKit
theorem conv1 (w : World) (d : UInt8) : (convert 53 9 (.slice (some ⟨w.heap.size, 0, none⟩) 1 1)).run Try.prog (w.alloc (.cells #[.int .u8 (d.toNat : Int)] 5)) = .ok (.string ⟨#[d]⟩) (w.alloc (.cells #[.int .u8 (d.toNat : Int)] 5)) := by
  refine run_convert_bytes_back _ _ _ 5 ⟨w.heap.size, 0, none⟩ _ [d] Try.underlying53 Try.underlying5 Try.underlying9 ?_
  intro j hj
  have : j = 0 := by simpa using hj
  subst this
  simp [Addr.add]
theorem cat_cons (d : UInt8) (r : List UInt8) : (({ data := #[d] } : ByteArray) ++ { data := r.toArray }) = { data := (d :: r).toArray } := by
  apply ByteArray.ext; rw [ByteArray.data_append]; simp
theorem ofNat_mod_int (m : Nat) : ((UInt8.ofNat (m % 256)).toNat : Int) = (m : Int) % 256 := by
  rw [toNat_ofNat_mod]; omega
set_option maxHeartbeats 1000000 in
theorem rnumref_any (n : Nat) (w : World) (hn : n < 9223372036854775808) :
    Calls Try.prog 32 #[.int .i64 n] w fun e w' => e = .returned (.string ⟨(numB n).toArray⟩) ∧ Below w.heap.size w w' := by
  have h8 := dig_length_8 hn
  go_enter Try.func32, Try.ntmps32
  go_wp2_with fail
  go_loopw [0, 3, 4] (fun a s k wr => ∃ (m : Nat) (r : List UInt8), m < 9223372036854775808 ∧ dig m ++ r = dig n ∧ a = .int .i64 m ∧ s = .string ⟨r.toArray⟩ ∧ k = .int .i64 r.length ∧ Below w.heap.size w wr) (fun a _ _ _ => (intOf a).toNat)
  case atStart => exact ⟨n, [], hn, by simp, rfl, rfl, rfl, Below.refl _ _⟩
  case round =>
    obtain ⟨m, r, hm, hd, rfl, rfl, rfl, hbel⟩ := hrel
    have hr : r.length ≤ 8 := by have := congrArg List.length hd; simp at this; omega
    have HD := Lib.hid hd
    have HB := Lib.hid hbel
    clear hd hbel
    by_cases h0 : 0 < m
    · have hconv := conv1 wr (UInt8.ofNat (m % 256))
      rw [ofNat_mod_int] at hconv
      have hcat := cat_cons (UInt8.ofNat (m % 256)) r
      go_wp2_with fail
      refine ⟨⟨m / 256, UInt8.ofNat (m % 256) :: r, by omega, ?_, by go_num, rfl, by go_num, HB.out.alloc HB.out.size _⟩, by simp [intOf]; omega⟩
      rw [← HD.out, dig_pos (n := m) (by omega), List.append_assoc]; rfl
    · have e0 : m = 0 := by omega
      subst e0
      have hconv := conv1 wr (UInt8.ofNat r.length)
      rw [show ((UInt8.ofNat r.length).toNat : Int) = (r.length : Int) by simp; omega] at hconv
      have hcat := cat_cons (UInt8.ofNat r.length) r
      go_wp2_with fail
      go_ret
      refine ⟨?_, HB.out.alloc HB.out.size _⟩
      have e : r = dig n := by have := HD.out; rwa [dig_zero, List.nil_append] at this
      rw [numB, ← e]; rfl
theorem rtextref_any (s : List UInt8) (w : World) (hs : s.length ≤ 9223372036854775000) :
    Calls Try.prog 45 #[.string ⟨s.toArray⟩] w fun e w' => e = .returned (.string ⟨(textB s).toArray⟩) ∧ Below w.heap.size w w' := by
  have hcat : (({ data := (numB s.length).toArray } : ByteArray) ++ { data := s.toArray }) = { data := (textB s).toArray } := by
    apply ByteArray.ext; rw [ByteArray.data_append]; simp [textB]
  go_enter Try.func45, Try.ntmps45
  go_wp2_with fail
  refine (rnumref_any s.length _ (by omega)).mono ?_
  rintro e w1 ⟨rfl, hb⟩
  have HB := Lib.hid hb
  have hn := numB_length_9 (n := s.length) (by omega)
  clear hb
  go_wp2_with fail
  go_ret
  exact ⟨rfl, HB.out⟩
set_option maxHeartbeats 1000000 in
theorem rlistref_any (ao : Option Addr) (cap : Nat) (l : List (List UInt8)) (w : World) (h : StrsAt ao l w) (hl : l.length ≤ 9223372036854775807) (hlen : (listB l).length ≤ 9223372036854775000) :
    Calls Try.prog 34 #[.slice ao l.length cap] w fun e w' => e = .returned (.string ⟨(listB l).toArray⟩) ∧ Below w.heap.size w w' := by
  have HS := Lib.hid h
  have hlb := listB_length l
  have HL := Lib.hid hlb
  clear h hlb
  go_enter Try.func34, Try.ntmps34
  go_wp2_with fail
  refine (rnumref_any l.length _ (by omega)).mono ?_
  rintro e w1 ⟨rfl, hb1⟩
  have HB1 := Lib.hid hb1
  clear hb1
  go_wp2_with fail
  go_loopw [3, 11] (fun s i wr => ∃ q : Nat, q ≤ l.length ∧ i = .int .i64 q ∧ s = .string ⟨(numB l.length ++ textsB (l.take q)).toArray⟩ ∧ Below w.heap.size w wr) (fun _ i _ => l.length - (intOf i).toNat)
  case atStart => exact ⟨0, Nat.zero_le _, rfl, by simp [textsB], HB1.out⟩
  case round =>
    obtain ⟨q, hq, rfl, rfl, hbel⟩ := hrel
    by_cases hlt : q < l.length
    · have hparts := textsB_parts l q hlt
      have hlist := HL.out
      have hcell : ∃ b o, ao = some ⟨b, o, none⟩ ∧ wr.cell? ⟨b, o + q, none⟩ = some (.string ⟨l[q].toArray⟩) := by
        rcases HS.out.below hbel with h | ⟨b, o, ha, hb, hc⟩
        · subst h; simp at hlt
        · exact ⟨b, o, ha, hc q hlt⟩
      obtain ⟨cb, co, hao, hc⟩ := hcell
      have htl := textB_length l[q]
      have hlq : l[q].length ≤ 9223372036854775000 := by omega
      have hsum : (numB l.length).length + (textsB (l.take q)).length + (textB l[q]).length ≤ 9223372036854775000 := by omega
      have hcat : (({ data := (numB l.length ++ textsB (l.take q)).toArray } : ByteArray) ++ { data := (textB l[q]).toArray }) = { data := (numB l.length ++ textsB (l.take (q + 1))).toArray } := by
        apply ByteArray.ext; rw [ByteArray.data_append, textsB_take_succ l q hlt]; simp [textB, List.append_assoc]
      have HB := Lib.hid hbel
      subst hao
      clear hbel hparts htl hlist
      go_wp2_with fail
      refine (rtextref_any l[q] _ hlq).mono ?_
      rintro e w3 ⟨rfl, hb3⟩
      have HB3 := Lib.hid (HB.out.trans (hb3.mono HB.out.size))
      clear hb3 HB hc
      go_wp2_with fail
      exact ⟨⟨q + 1, by omega, by go_num, rfl, HB3.out⟩, by simp [intOf]; omega⟩
    · obtain rfl : q = l.length := by omega
      have HB := Lib.hid hbel
      clear hbel
      go_wp2_with fail
      go_ret
      exact ⟨by rw [List.take_length]; rfl, HB.out⟩
end Go.Proofs.Ytenmkfjgjemiiaa
namespace Go.Proofs.Ytenmkfjgjemiiaa
open Go.RowKit Go.BigFrame
theorem ref_num9 (n : Int) (w : World) (h2 : n ≤ 9223372036854775807) :
    Calls Try.prog 44 #[.int .i64 n] w fun e w' => e = .returned (.string ⟨(numB n.toNat).toArray⟩) ∧ Below w.heap.size w w' := by
  by_cases h0 : n < 0
  · have HN := Lib.hid (rnumref_any 0 w (by decide))
    have HE := Shut.mk (show n.toNat = 0 by omega)
    go_enter Try.func44, Try.ntmps44
    go_wp2_with fail
    refine HN.out.mono ?_
    rintro e w1 ⟨rfl, hb⟩
    have HB := Lib.hid hb
    clear hb
    go_wp2_with fail
    go_ret
    exact ⟨by rw [HE.out]; rfl, HB.out⟩
  · obtain ⟨m, rfl⟩ := Int.eq_ofNat_of_zero_le (show 0 ≤ n by omega)
    have HN := Lib.hid (rnumref_any m w (by omega))
    have hnl : ¬ (m : Int) < 0 := h0
    go_enter Try.func44, Try.ntmps44
    go_wp2_with fail
    refine HN.out.mono ?_
    rintro e w1 ⟨rfl, hb⟩
    have HB := Lib.hid hb
    clear hb
    go_wp2_with fail
    go_ret
    exact ⟨by rw [Int.toNat_natCast]; rfl, HB.out⟩
set_option maxHeartbeats 4000000 in
set_option maxRecDepth 100000 in
theorem ref_draftText (d : DraftN) (hd : d.Fit) (w : World) :
    Calls Try.prog 33 #[.agg (draftV d)] w fun e w' => e = .returned (.string ⟨(draftB d).toArray⟩) ∧ Below w.heap.size w w' := by
  have hx : Cells w.heap.size 28 (draftV d) (w.alloc (.cells (draftV d) 28)) := heap_alloc_new w _
  have hb : Below w.heap.size w (w.alloc (.cells (draftV d) 28)) := (Below.refl _ _).alloc (Nat.le_refl _) _
  have HX := Lib.hid hx
  have HB := Lib.hid hb
  have HD := Lib.hid hd
  have HLEN := Lib.hid (draftB_le9 hd)
  clear hx hb hd
  go_enter Try.func33, Try.ntmps33
  go_upto_region 1 with (fail)
  obtain ⟨w1, hw1⟩ : ∃ x, x = w.alloc (.cells (draftV d) 28) := ⟨_, rfl⟩
  rw [← hw1] at HX HB ⊢
  clear hw1
  obtain ⟨c0, c1, c2, c3⟩ := draft_cells HX.out
  have hg := HX.out.lt
  obtain ⟨k, hk⟩ : ∃ k, d.kind = k := ⟨_, rfl⟩
  have HK := Shut.mk hk
  rw [hk] at c0
  have HC0 := Lib.hid (fun (w' : World) (q : Below w1.heap.size w1 w') => (q.cell (p := ⟨w.heap.size, 0, none⟩) hg).trans c0)
  have HC1 := Lib.hid (fun (w' : World) (q : Below w1.heap.size w1 w') => (q.cell (p := ⟨w.heap.size, 1, none⟩) hg).trans c1)
  have HC2 := Lib.hid (fun (w' : World) (q : Below w1.heap.size w1 w') => (q.cell (p := ⟨w.heap.size, 2, none⟩) hg).trans c2)
  have HC3 := Lib.hid (fun (w' : World) (q : Below w1.heap.size w1 w') => conv_mid (P := Try.prog) (src := 53) (dst := 9) (c := 32) Try.underlying53 Try.underlying5 Try.underlying9 HD.out.ref.1.symm HD.out.ref.2 (rangeAt_belowI c3 q hg))
  have HN := Lib.hid (fun w' => ref_num9 k w' (by have := HD.out.high; rw [hk] at this; exact this))
  clear c0 c1 c2 c3 hg hk
  refine wp_region_class_tail (fun w' => Below w1.heap.size w1 w') 10 (by kernel_rfl) (by kernel_rfl) (Below.refl _ _).drew ?_
  simp only [List.take_succ_cons, List.take_zero, List.drop_succ_cons, List.drop_zero]
  repeat (first
    | (go_big_quiet_want; refine quiet_load_cell 3 _ rfl ⟨w.heap.size, 0, none⟩ _ rfl HC0.out Try.isAgg3 ?_; go_big_quiet_on; simp only [Act.put, List.setIfInBounds_toArray, List.set_cons_zero, List.set_cons_succ])
    | (go_big_quiet_want; refine quiet_load_cell 9 _ rfl ⟨w.heap.size, 1, none⟩ _ rfl HC1.out Try.isAgg9 ?_; go_big_quiet_on; simp only [Act.put, List.setIfInBounds_toArray, List.set_cons_zero, List.set_cons_succ])
    | (go_big_quiet_want; refine quiet_load_cell 9 _ rfl ⟨w.heap.size, 2, none⟩ _ rfl HC2.out Try.isAgg9 ?_; go_big_quiet_on; simp only [Act.put, List.setIfInBounds_toArray, List.set_cons_zero, List.set_cons_succ])
    | (go_big_quiet_want; refine quiet_conv 53 9 _ rfl (.slice (some ⟨w.heap.size, 3, none⟩) 32 32) _ rfl HC3.out ?_; go_big_quiet_on; simp only [Act.put, List.setIfInBounds_toArray, List.set_cons_zero, List.set_cons_succ])
    | go_big_quiet_step ((intro hs'; first
        | (go_at_call 44; exact (HN.out _).mono fun e w' h => ⟨h.1, hs'.trans (h.2.mono hs'.size)⟩)
        | rfl)))
  refine wpQuiet_nil ?_
  intro w2 hs2
  have HB2 := Lib.hid (HB.out.trans (hs2.mono HB.out.size))
  clear hs2 HX HB HC0 HC1 HC2 HC3 HN
  go_wp2_with fail
  refine (rlistref_any (some ⟨w2.heap.size, 0, none⟩) 4 [numB k.toNat, d.key, d.val, txt d.ref] _ (at_four9 w2 _ _ _ _) (by simp) (by have := HLEN.out; rw [draftB, HK.out] at this; omega)).mono ?_
  rintro e w3 ⟨rfl, hb⟩
  have HB3 := Lib.hid (HB2.out.trans (((Below.refl _ w2).alloc (Nat.le_refl _) _).trans (hb.mono (by simp)) |>.mono HB2.out.size))
  clear hb HB2
  go_wp2_with fail
  go_ret
  exact ⟨by rw [draftB, HK.out]; rfl, HB3.out⟩
end Go.Proofs.Ytenmkfjgjemiiaa
namespace Go.Proofs.Ytenmkfjgjemiiaa
open Go.RowKit Go.BigFrame
theorem OwnS.lit (w : World) (B : Nat) (L : List (List UInt8)) (n c : Nat) (hB : B ≤ w.heap.size) (hn : n = L.length) (hc : c = L.length) (h : L.length ≤ 1000) : OwnS B (.slice (some ⟨w.heap.size, 0, none⟩) n c) L (w.alloc (.cells (strs L).toArray 9)) := by
  subst hn hc
  have h1 := World.ownsRow_lit (base := B) (e := 9) (size := 1) w (strs L).toArray L.length hB (by unfold maxLen; omega) (by rw [List.size_toArray, strs_length, Nat.mul_one])
  exact h1
theorem op_slice_whole {P : Program} {o : Oper} {a : Act} {w : World} {K : Act → World → Prop} {Q : Exit → Act → World → Prop} (t : TypeId) (x : Operand) (ho : o.op = .slice t x none none none) (vx r : Value) (hx : a.eval x = vx)
    (hr : ∀ w, (Instr.sliceAt t vx none none none).run P w = .ok r w) (h : K (a.put o.dst r) w) : OpWp P o a w K Q := by
  refine ⟨?_⟩
  unfold Oper.wp execOp
  simp only [ho, hx, Option.map_none, Sem.run_bind, Sem.run_pure, hr, Result.andThen_ok]
  exact h
theorem slice_id (g o : Nat) (w : World) : (Instr.sliceAt 26 (.pointer (some ⟨g, o, none⟩)) none none none).run Try.prog w = .ok (.slice (some ⟨g, o, none⟩) 32 32) w := by kernel_rfl
theorem field_ent2 (g : Nat) (w : World) : (Instr.fieldAt 30 (.pointer (some ⟨g, 0, none⟩)) 2).run Try.prog w = .ok (.pointer (some ⟨g, 36, none⟩)) w := by kernel_rfl
theorem field_ent3 (g : Nat) (w : World) : (Instr.fieldAt 30 (.pointer (some ⟨g, 0, none⟩)) 3).run Try.prog w = .ok (.pointer (some ⟨g, 37, none⟩)) w := by kernel_rfl
theorem field_ent4 (g : Nat) (w : World) : (Instr.fieldAt 30 (.pointer (some ⟨g, 0, none⟩)) 4).run Try.prog w = .ok (.pointer (some ⟨g, 38, none⟩)) w := by kernel_rfl
theorem field_ent5 (g : Nat) (w : World) : (Instr.fieldAt 30 (.pointer (some ⟨g, 0, none⟩)) 5).run Try.prog w = .ok (.pointer (some ⟨g, 70, none⟩)) w := by kernel_rfl
theorem field_ent6 (g : Nat) (w : World) : (Instr.fieldAt 30 (.pointer (some ⟨g, 0, none⟩)) 6).run Try.prog w = .ok (.pointer (some ⟨g, 71, none⟩)) w := by kernel_rfl
set_option maxHeartbeats 4000000 in
set_option maxRecDepth 100000 in
theorem ref_text15 (e : EntN) (he : e.Len) (hq : e.seq < 9223372036854775808) (w : World) :
    Calls Try.prog 13 #[.agg (entV e)] w fun r w' => r = .returned (.string ⟨(entB e).toArray⟩) ∧ Below w.heap.size w w' := by
  have hx : Cells w.heap.size 30 (entV e) (w.alloc (.cells (entV e) 30)) := heap_alloc_new w _
  have hb : Below w.heap.size w (w.alloc (.cells (entV e) 30)) := (Below.refl _ _).alloc (Nat.le_refl _) _
  have HX := Lib.hid hx
  have HB := Lib.hid hb
  have HE := Lib.hid he
  have HGD := Lib.hid (fun w' => ref_good15 e he w')
  have HSE := Lib.hid (sizeEV he.ok)
  have HLE := Lib.hid (fun h : GoodE e => partsE_le h ⟨he.ok, hq⟩)
  have HQ := Lib.hid hq
  clear hx hb he hq
  obtain ⟨g, hg⟩ : ∃ b, decide (GoodE e) = b := ⟨_, rfl⟩
  have HG := Shut.mk hg
  rw [hg] at HGD
  clear hg
  go_enter Try.func13, Try.ntmps13
  go_upto_region 1 with (fail)
  obtain ⟨w1, hw1⟩ : ∃ x, x = w.alloc (.cells (entV e) 30) := ⟨_, rfl⟩
  rw [← hw1] at HX HB ⊢
  clear hw1
  have HBL := Lib.hid HX.out.lt
  have HSD := Lib.hid (show (Try.prog.info? 28).map (·.size) = some (draftL e.d).length by rw [draftL_len HE.out.ok.ref.1]; exact Try.sizeD)
  go_wp2_with (refine wpList_load_cells rfl 30 _ rfl w.heap.size (entV e) 30 _ rfl HX.out Try.underlying30 rfl HSE.out ?_)
  refine (HGD.out w1).mono ?_
  rintro r w2 ⟨rfl, hb⟩
  have HB2 := Lib.hid hb
  clear hb HGD
  cases g with
  | false =>
    have HZ := Shut.mk (entB_bad (of_decide_eq_false HG.out))
    go_wp2_with fail
    go_ret
    exact ⟨by rw [HZ.out]; rfl, HB.out.trans (HB2.out.mono HB.out.size)⟩
  | true =>
  have hgood := of_decide_eq_true HG.out
  have HZ := Shut.mk (entB_good hgood)
  have HGO := Lib.hid hgood
  have HLN := Lib.hid (HLE.out hgood)
  clear HLE HG
  obtain ⟨kk, hk, hk3⟩ : ∃ kk : Nat, e.kind = kk ∧ (kk = 1 ∨ kk = 2 ∨ kk = 3) := by
    rcases hgood with h | h | h
    · exact ⟨1, h.1, .inl rfl⟩
    · exact ⟨2, h.1, .inr (.inl rfl)⟩
    · exact ⟨3, h.1, .inr (.inr rfl)⟩
  have HK := Shut.mk hk
  have c0 := (ent_cells HE.out.ok (HX.out.below HB2.out)).1
  rw [hk] at c0
  have hkl : kk < 9223372036854775808 := by omega
  clear hk hgood
  have HK3 := Lib.hid hk3
  clear hk3
  go_wp2_with fail
  refine (rnumref_any kk w2 hkl).mono ?_
  rintro r w3 ⟨rfl, hb⟩
  have HB3 := Lib.hid (HB2.out.trans (hb.mono HB2.out.size))
  clear hb c0 HB2 hkl
  obtain ⟨N1, hN1⟩ : ∃ x, numB kk = x := ⟨_, rfl⟩
  have HN1 := Shut.mk hN1
  rw [hN1]
  clear hN1
  go_upto_region 4 with (fail)
  have HO := Lib.hid (OwnS.lit w3 w1.heap.size [N1] 1 1 HB3.out.size rfl rfl (by simp))
  obtain ⟨w4, hw4⟩ : ∃ x, x = w3.alloc (.cells #[.string ⟨N1.toArray⟩] 9) := ⟨_, rfl⟩
  have HB4 := Lib.hid (show Below w1.heap.size w1 w4 by rw [hw4]; exact HB3.out.alloc HB3.out.size _)
  rw [show (strs [N1]).toArray = #[.string ⟨N1.toArray⟩] from rfl, ← hw4] at HO
  rw [← hw4]
  clear hw4
  have HX4 := Lib.hid (HX.out.below HB4.out)
  obtain ⟨c0, cd, cf, cq, cp, cm, cy, cs⟩ := ent_cells HE.out.ok HX4.out
  have HCD := Lib.hid cd
  have HCP := Lib.hid cp
  rw [HK.out] at c0
  clear cd cp HB3
  rcases HK3.out with rfl | rfl | rfl
  · have hgood := HGO.out
    have hk1 : e.kind = 1 := HK.out
    have hd : GoodD e.d := by
      rcases hgood with h | h | h
      · exact h.2.1
      · have := h.1; omega
      · have := h.1; omega
    have HP := Shut.mk (show partsE e = [N1, draftB e.d] by rw [partsE, if_pos hk1, ← HN1.out])
    have HDT := Lib.hid (fun w' => ref_draftText e.d (hd.fit HE.out.ok.ref) w')
    have c0 : w4.cell? ⟨w.heap.size, 0, none⟩ = some (.int .i64 1) := c0
    rw [HP.out] at HZ HLN
    obtain ⟨DB, hDB⟩ : ∃ x, draftB e.d = x := ⟨_, rfl⟩
    rw [hDB] at HDT HZ HLN
    clear hk1 hd hDB HP hgood cf cq cm cy cs HCP
    go_wp2_with (refine wpList_load_mid rfl 28 _ rfl w.heap.size 1 rfl _ _ HCD.out Try.underlying28 rfl HSD.out ?_)
    refine (HDT.out w4).mono ?_
    rintro r w5 ⟨rfl, hb⟩
    have HO5 := Lib.hid (HO.out.below hb)
    have HB5 := Lib.hid (HB4.out.trans (hb.mono HB4.out.size))
    clear hb c0 HCD HX4 HB4 HO HDT
    have HS := Lib.hid (strs_lit w5 [DB] 9)
    go_wp2_with (refine wpList_push_strs rfl _ _ rfl w1.heap.size _ [N1] [DB] (some ⟨w5.heap.size, 0, none⟩) 1 1 rfl rfl (HO5.out.below ((Below.refl _ w5).alloc (Nat.le_refl _) _)) rfl HS.out (fun h => by cases h) (by simp) (Nat.le_trans HB5.out.size (by rw [World.size_alloc]; exact Nat.le_succ _)) ?_)
    intro v6 w6 ho hb _
    obtain ⟨ao6, c6, rfl⟩ := ho.out.form
    have HS6 := Lib.hid (strsAt_own ho.out)
    have HB6 := Lib.hid (HB5.out.trans (((Below.refl _ w5).alloc HB5.out.size _).trans hb.out))
    clear ho hb HS HO5 HB5
    have c0 : w6.cell? ⟨w.heap.size, 0, none⟩ = some (.int .i64 1) := by
      have h := (ent_cells HE.out.ok (HX.out.below HB6.out)).1
      rw [HK.out] at h
      exact h
    go_wp2_with fail
    refine (rlistref_any ao6 c6 [N1, DB] w6 HS6.out (by simp) (by have := HLN.out; omega)).mono ?_
    rintro r w7 ⟨rfl, hb⟩
    have HB7 := Lib.hid (HB6.out.trans (hb.mono HB6.out.size))
    clear hb
    go_wp2_with fail
    go_ret
    exact ⟨by rw [HZ.out]; rfl, HB.out.trans (HB7.out.mono HB.out.size)⟩
  · have hgood := HGO.out
    have hk1 : e.kind = 2 := HK.out
    obtain ⟨a, b, m, hf, hq, hm, hal, hbl, hml⟩ : ∃ a b m : Nat, e.src = a ∧ e.seq = b ∧ e.mask = m ∧ a < 9223372036854775808 ∧ b < 9223372036854775808 ∧ m < 9223372036854775808 := by
      rcases hgood with h | h | h
      · have := h.1; omega
      · obtain ⟨_, ⟨h1, h2, _⟩, _, h4, h5, h6, _⟩ := h
        have := HQ.out
        exact ⟨e.src.toNat, e.seq.toNat, e.mask.toNat, by omega, by omega, by omega, by omega, by omega, by omega⟩
      · have := h.1; omega
    have HP := Shut.mk (show partsE e = [N1, numB a, numB b, txt e.prev, numB m, e.pay, e.sig] by
      rw [partsE, if_neg (by omega), if_pos hk1, ← HN1.out, hf, hq, hm]
      rfl)
    have c0 : w4.cell? ⟨w.heap.size, 0, none⟩ = some (.int .i64 2) := c0
    rw [HP.out] at HZ HLN
    rw [hf] at cf
    rw [hq] at cq
    have HC6 := Lib.hid (fun (w' : World) (q : Below w4.heap.size w4 w') => (q.cell (p := ⟨w.heap.size, 36, none⟩) (Nat.lt_of_lt_of_le HBL.out HB4.out.size)).trans cf)
    have HC7 := Lib.hid (fun (w' : World) (q : Below w4.heap.size w4 w') => (q.cell (p := ⟨w.heap.size, 37, none⟩) (Nat.lt_of_lt_of_le HBL.out HB4.out.size)).trans cq)
    have HC8 := Lib.hid (fun (w' : World) (q : Below w4.heap.size w4 w') => conv_mid (P := Try.prog) (src := 53) (dst := 9) (c := 32) Try.underlying53 Try.underlying5 Try.underlying9 HE.out.ok.prev.1.symm HE.out.ok.prev.2 (rangeAt_belowI HCP.out q (Nat.lt_of_lt_of_le HBL.out HB4.out.size)))
    have HNA := Lib.hid (fun w' => rnumref_any a w' hal)
    have HNB := Lib.hid (fun w' => rnumref_any b w' hbl)
    obtain ⟨PV, hPV⟩ : ∃ x, txt e.prev = x := ⟨_, rfl⟩
    rw [hPV] at HC8 HZ HLN
    have HM := Shut.mk hm
    clear hk1 HP hgood cf cq cm cy cs HCD hf hq hm hPV hal hbl
    go_upto_region 7 with (fail)
    refine wp_region_free 11 (fun q V w' => Vals q V [(0, .slice (some ⟨w3.heap.size, 0, none⟩) 1 1), (1, .pointer (some ⟨w.heap.size, 36, none⟩)), (2, .int .i64 (a : Int)), (3, .string ⟨(numB a).toArray⟩), (4, .pointer (some ⟨w.heap.size, 37, none⟩)), (5, .int .i64 (b : Int)), (6, .string ⟨(numB b).toArray⟩), (7, .pointer (some ⟨w.heap.size, 38, none⟩)), (8, .slice (some ⟨w.heap.size, 38, none⟩) 32 32), (9, .string ⟨PV.toArray⟩)] ∧ NewS q V 10 3 ([numB a, numB b, PV]) w' ∧ Below w4.heap.size w4 w') (fun _ => undef) (by kernel_rfl) (by kernel_rfl) (by kernel_rfl) (by simp only [List.take_succ_cons, List.take_zero, putAll, Act.put, List.setIfInBounds_toArray, List.set_cons_zero, List.set_cons_succ]) ⟨Vals.none, NewS.none, (Below.refl _ _).drew⟩ ?_ ?_
    · simp only [List.take_succ_cons, List.take_zero, putAll, Nat.zero_add, Nat.reduceAdd, Act.put, List.setIfInBounds_toArray, List.set_cons_zero, List.set_cons_succ]
      refine FreeSteps.cons ?_ (FreeSteps.cons ?_ (FreeSteps.cons ?_ (FreeSteps.cons ?_ (FreeSteps.cons ?_ (FreeSteps.cons ?_ (FreeSteps.cons ?_ (FreeSteps.cons ?_ (FreeSteps.cons ?_ (FreeSteps.cons ?_ (FreeSteps.cons ?_ (FreeSteps.nil)))))))))))
      all_goals (refine FreeStep.fresh rfl ?_; rintro q V wq hr hu ⟨hVs, h10, hb⟩ K hK)
      · exact op_move (.tmp 3) rfl _ rfl (hK _ _ ⟨hVs.set rfl, h10.ne (by decide) (Below.refl _ _), hb⟩)
      · exact op_fieldAt 30 (.tmp 1) 2 rfl _ _ rfl (field_ent2 w.heap.size) (hK _ _ ⟨hVs.set rfl, h10.ne (by decide) (Below.refl _ _), hb⟩)
      · exact op_load_cell 3 (.tmp 24) rfl _ _ (hVs.get 1 (hr { on := 1, ground := .data } (by simp) rfl) rfl) (HC6.out wq hb) Try.isAgg3 (hK _ _ ⟨hVs.set rfl, h10.ne (by decide) (Below.refl _ _), hb⟩)
      · refine op_call Try.func32 rfl rfl rfl [.int .i64 (a : Int)] ((congrArg (fun x => [x]) (hVs.get 2 (hr { on := 2, ground := .data } (by simp) rfl) rfl))) (HNA.out wq) ?_
        rintro e w' ⟨rfl, hb'⟩
        exact ⟨_, rfl, (hK _ _ ⟨hVs.set rfl, h10.ne (by decide) hb', hb.trans (hb'.mono hb.size)⟩)⟩
      · exact op_fieldAt 30 (.tmp 1) 3 rfl _ _ rfl (field_ent3 w.heap.size) (hK _ _ ⟨hVs.set rfl, h10.ne (by decide) (Below.refl _ _), hb⟩)
      · exact op_load_cell 3 (.tmp 27) rfl _ _ (hVs.get 4 (hr { on := 4, ground := .data } (by simp) rfl) rfl) (HC7.out wq hb) Try.isAgg3 (hK _ _ ⟨hVs.set rfl, h10.ne (by decide) (Below.refl _ _), hb⟩)
      · refine op_call Try.func32 rfl rfl rfl [.int .i64 (b : Int)] ((congrArg (fun x => [x]) (hVs.get 5 (hr { on := 5, ground := .data } (by simp) rfl) rfl))) (HNB.out wq) ?_
        rintro e w' ⟨rfl, hb'⟩
        exact ⟨_, rfl, (hK _ _ ⟨hVs.set rfl, h10.ne (by decide) hb', hb.trans (hb'.mono hb.size)⟩)⟩
      · exact op_fieldAt 30 (.tmp 1) 4 rfl _ _ rfl (field_ent4 w.heap.size) (hK _ _ ⟨hVs.set rfl, h10.ne (by decide) (Below.refl _ _), hb⟩)
      · exact op_slice_whole 26 (.tmp 30) rfl _ _ (hVs.get 7 (hr { on := 7, ground := .data } (by simp) rfl) rfl) (slice_id w.heap.size 38) (hK _ _ ⟨hVs.set rfl, h10.ne (by decide) (Below.refl _ _), hb⟩)
      · exact op_conv 53 9 (.tmp 31) rfl _ _ (hVs.get 8 (hr { on := 8, ground := .data } (by simp) rfl) rfl) (HC8.out wq hb) (hK _ _ ⟨hVs.set rfl, h10.ne (by decide) (Below.refl _ _), hb⟩)
      · exact op_build_strs 61 9 3 #[(0, .tmp 26), (1, .tmp 29), (2, .tmp 32)] rfl [(0, .string ⟨(numB a).toArray⟩), (1, .string ⟨(numB b).toArray⟩), (2, .string ⟨PV.toArray⟩)] _ (by
            have v3 := (hVs.get 3 (hr { on := 3, ground := .data } (by simp) rfl) rfl)
            have v6 := (hVs.get 6 (hr { on := 6, ground := .data } (by simp) rfl) rfl)
            have v9 := (hVs.get 9 (hr { on := 9, ground := .data } (by simp) rfl) rfl)
            rw [List.map_toArray]
            show [((0 : Nat), V 3), (1, V 6), (2, V 9)].toArray = _
            rw [v3, v6, v9]) (built_strs3 _ _ _) (hK _ _ ⟨hVs.off rfl, .same, hb.alloc hb.size _⟩)
    rintro q V wq hall ⟨hVs, h10, hb⟩
    have v0 := hVs.get 0 (hall 0 (by decide)) rfl
    have v1 := hVs.get 1 (hall 1 (by decide)) rfl
    have v2 := hVs.get 2 (hall 2 (by decide)) rfl
    have v3 := hVs.get 3 (hall 3 (by decide)) rfl
    have v4 := hVs.get 4 (hall 4 (by decide)) rfl
    have v5 := hVs.get 5 (hall 5 (by decide)) rfl
    have v6 := hVs.get 6 (hall 6 (by decide)) rfl
    have v7 := hVs.get 7 (hall 7 (by decide)) rfl
    have v8 := hVs.get 8 (hall 8 (by decide)) rfl
    have v9 := hVs.get 9 (hall 9 (by decide)) rfl
    obtain ⟨g10, v10, hs10⟩ := h10 (hall 10 (by decide))
    simp only [List.take_succ_cons, List.take_zero, List.drop_succ_cons, List.drop_zero, putAll, Nat.zero_add, Nat.reduceAdd, v0, v1, v2, v3, v4, v5, v6, v7, v8, v9, v10, Act.put, List.setIfInBounds_toArray, List.set_cons_zero, List.set_cons_succ]
    clear hVs v0 v1 v2 v3 v4 v5 v6 v7 v8 v9 v10 hall
    obtain ⟨w5, hw5⟩ : ∃ x, x = wq := ⟨_, rfl⟩
    rw [← hw5] at hb hs10 ⊢
    clear hw5
    have HOn := Lib.hid (HO.out.below hb)
    have HB5 := Lib.hid (HB4.out.trans (hb.mono HB4.out.size))
    have HS := Lib.hid hs10
    clear hb hs10 HO HB4
    obtain ⟨NA, hNA⟩ : ∃ x, numB a = x := ⟨_, rfl⟩
    obtain ⟨NB, hNB⟩ : ∃ x, numB b = x := ⟨_, rfl⟩
    rw [hNA, hNB] at HS HZ HLN
    clear hNA hNB HC6 HC7 HC8 HNA HNB c0 HX4 HCP
    refine wpList_push_strs rfl _ _ rfl w1.heap.size _ [N1] [NA, NB, PV] (some ⟨g10, 0, none⟩) 3 3 rfl rfl HOn.out rfl HS.out (fun h => by cases h) (by simp) HB5.out.size ?_
    intro v6 w6 ho hb _
    obtain ⟨ao6, c6, rfl⟩ := ho.out.form
    have HO6 := Lib.hid ho.out
    have HB6 := Lib.hid (HB5.out.trans hb.out)
    clear ho hb HS HOn HB5
    have c0 : w6.cell? ⟨w.heap.size, 0, none⟩ = some (.int .i64 2) := by
      have h := (ent_cells HE.out.ok (HX.out.below HB6.out)).1
      rw [HK.out] at h
      exact h
    have hm := HM.out
    obtain ⟨_, _, _, _, _, cm, cy, cs⟩ := ent_cells HE.out.ok (HX.out.below HB6.out)
    rw [hm] at cm
    have HCM := Lib.hid (fun (w' : World) (q : Below w6.heap.size w6 w') => (q.cell (p := ⟨w.heap.size, 70, none⟩) (Nat.lt_of_lt_of_le HBL.out HB6.out.size)).trans cm)
    have HCY := Lib.hid (fun (w' : World) (q : Below w6.heap.size w6 w') => (q.cell (p := ⟨w.heap.size, 71, none⟩) (Nat.lt_of_lt_of_le HBL.out HB6.out.size)).trans cy)
    have HNM := Lib.hid (fun w' => rnumref_any m w' hml)
    clear cm cy cs hm
    go_upto_region 9 with (fail)
    refine wp_region_free 7 (fun q V w' => Vals q V [(0, .slice ao6 4 c6), (1, .pointer (some ⟨w.heap.size, 70, none⟩)), (2, .int .i64 (m : Int)), (3, .string ⟨(numB m).toArray⟩), (4, .pointer (some ⟨w.heap.size, 71, none⟩)), (5, .string ⟨e.pay.toArray⟩)] ∧ NewS q V 6 2 ([numB m, e.pay]) w' ∧ Below w6.heap.size w6 w') (fun _ => undef) (by kernel_rfl) (by kernel_rfl) (by kernel_rfl) (by simp only [List.take_succ_cons, List.take_zero, putAll, Act.put, List.setIfInBounds_toArray, List.set_cons_zero, List.set_cons_succ]) ⟨Vals.none, NewS.none, (Below.refl _ _).drew⟩ ?_ ?_
    · simp only [List.take_succ_cons, List.take_zero, putAll, Nat.zero_add, Nat.reduceAdd, Act.put, List.setIfInBounds_toArray, List.set_cons_zero, List.set_cons_succ]
      refine FreeSteps.cons ?_ (FreeSteps.cons ?_ (FreeSteps.cons ?_ (FreeSteps.cons ?_ (FreeSteps.cons ?_ (FreeSteps.cons ?_ (FreeSteps.cons ?_ (FreeSteps.nil)))))))
      all_goals (refine FreeStep.fresh rfl ?_; rintro q V wq hr hu ⟨hVs, h6, hb⟩ K hK)
      · exact op_move (.tmp 3) rfl _ rfl (hK _ _ ⟨hVs.set rfl, h6.ne (by decide) (Below.refl _ _), hb⟩)
      · exact op_fieldAt 30 (.tmp 1) 5 rfl _ _ rfl (field_ent5 w.heap.size) (hK _ _ ⟨hVs.set rfl, h6.ne (by decide) (Below.refl _ _), hb⟩)
      · exact op_load_cell 3 (.tmp 39) rfl _ _ (hVs.get 1 (hr { on := 1, ground := .data } (by simp) rfl) rfl) (HCM.out wq hb) Try.isAgg3 (hK _ _ ⟨hVs.set rfl, h6.ne (by decide) (Below.refl _ _), hb⟩)
      · refine op_call Try.func32 rfl rfl rfl [.int .i64 (m : Int)] ((congrArg (fun x => [x]) (hVs.get 2 (hr { on := 2, ground := .data } (by simp) rfl) rfl))) (HNM.out wq) ?_
        rintro e w' ⟨rfl, hb'⟩
        exact ⟨_, rfl, (hK _ _ ⟨hVs.set rfl, h6.ne (by decide) hb', hb.trans (hb'.mono hb.size)⟩)⟩
      · exact op_fieldAt 30 (.tmp 1) 6 rfl _ _ rfl (field_ent6 w.heap.size) (hK _ _ ⟨hVs.set rfl, h6.ne (by decide) (Below.refl _ _), hb⟩)
      · exact op_load_cell 9 (.tmp 42) rfl _ _ (hVs.get 4 (hr { on := 4, ground := .data } (by simp) rfl) rfl) (HCY.out wq hb) Try.isAgg9 (hK _ _ ⟨hVs.set rfl, h6.ne (by decide) (Below.refl _ _), hb⟩)
      · exact op_build_strs 61 9 2 #[(0, .tmp 41), (1, .tmp 43)] rfl [(0, .string ⟨(numB m).toArray⟩), (1, .string ⟨e.pay.toArray⟩)] _ (by
            have v3 := (hVs.get 3 (hr { on := 3, ground := .data } (by simp) rfl) rfl)
            have v5 := (hVs.get 5 (hr { on := 5, ground := .data } (by simp) rfl) rfl)
            rw [List.map_toArray]
            show [((0 : Nat), V 3), (1, V 5)].toArray = _
            rw [v3, v5]) (built_strs2 _ _) (hK _ _ ⟨hVs.off rfl, .same, hb.alloc hb.size _⟩)
    rintro q V wq hall ⟨hVs, h6, hb⟩
    have v0 := hVs.get 0 (hall 0 (by decide)) rfl
    have v1 := hVs.get 1 (hall 1 (by decide)) rfl
    have v2 := hVs.get 2 (hall 2 (by decide)) rfl
    have v3 := hVs.get 3 (hall 3 (by decide)) rfl
    have v4 := hVs.get 4 (hall 4 (by decide)) rfl
    have v5 := hVs.get 5 (hall 5 (by decide)) rfl
    obtain ⟨g6, v6, hs6⟩ := h6 (hall 6 (by decide))
    simp only [List.take_succ_cons, List.take_zero, List.drop_succ_cons, List.drop_zero, putAll, Nat.zero_add, Nat.reduceAdd, v0, v1, v2, v3, v4, v5, v6, Act.put, List.setIfInBounds_toArray, List.set_cons_zero, List.set_cons_succ]
    clear hVs v0 v1 v2 v3 v4 v5 v6 hall
    obtain ⟨w7, hw7⟩ : ∃ x, x = wq := ⟨_, rfl⟩
    rw [← hw7] at hb hs6 ⊢
    clear hw7
    have HOn := Lib.hid (HO6.out.below hb)
    have HB7 := Lib.hid (HB6.out.trans (hb.mono HB6.out.size))
    have HS := Lib.hid hs6
    clear hb hs6 HO6 HB6
    obtain ⟨NM, hNM⟩ : ∃ x, numB m = x := ⟨_, rfl⟩
    rw [hNM] at HS HZ HLN
    clear hNM
    refine wpList_push_strs rfl _ _ rfl w1.heap.size _ [N1, NA, NB, PV] [NM, e.pay] (some ⟨g6, 0, none⟩) 2 2 rfl rfl HOn.out rfl HS.out (fun h => by cases h) (by simp) HB7.out.size ?_
    intro v8 w8 ho hb _
    obtain ⟨ao8, c8, rfl⟩ := ho.out.form
    have HO8 := Lib.hid ho.out
    have HB8 := Lib.hid (HB7.out.trans hb.out)
    clear ho hb HS HOn HB7
    have c0 : w8.cell? ⟨w.heap.size, 0, none⟩ = some (.int .i64 2) := by
      have h := (ent_cells HE.out.ok (HX.out.below HB8.out)).1
      rw [HK.out] at h
      exact h
    have cs := (ent_cells HE.out.ok (HX.out.below HB8.out)).2.2.2.2.2.2.2
    have HS := Lib.hid (strs_lit w8 [e.sig] 9)
    go_wp2_with (refine wpList_push_strs rfl _ _ rfl w1.heap.size _ [N1, NA, NB, PV, NM, e.pay] [e.sig] (some ⟨w8.heap.size, 0, none⟩) 1 1 rfl rfl (HO8.out.below ((Below.refl _ w8).alloc (Nat.le_refl _) _)) rfl HS.out (fun h => by cases h) (by simp) (Nat.le_trans HB8.out.size (by rw [World.size_alloc]; exact Nat.le_succ _)) ?_)
    intro v9 w9 ho hb _
    obtain ⟨ao9, c9, rfl⟩ := ho.out.form
    have HS9 := Lib.hid (strsAt_own ho.out)
    have HB9 := Lib.hid (HB8.out.trans (((Below.refl _ w8).alloc HB8.out.size _).trans hb.out))
    clear ho hb HS HO8 HB8 cs c0
    go_wp2_with fail
    refine (rlistref_any ao9 c9 [N1, NA, NB, PV, NM, e.pay, e.sig] w9 HS9.out (by simp) (by have := HLN.out; omega)).mono ?_
    rintro r wa ⟨rfl, hb⟩
    have HBa := Lib.hid (HB9.out.trans (hb.mono HB9.out.size))
    clear hb
    go_wp2_with fail
    go_ret
    exact ⟨by rw [HZ.out]; rfl, HB.out.trans (HBa.out.mono HB.out.size)⟩
  · have hgood := HGO.out
    have hk1 : e.kind = 3 := HK.out
    obtain ⟨m, hm, hml⟩ : ∃ m : Nat, e.mask = m ∧ m < 9223372036854775808 := by
      rcases hgood with h | h | h
      · have := h.1; omega
      · have := h.1; omega
      · obtain ⟨_, ⟨h1, h2, _⟩, _⟩ := h
        exact ⟨e.mask.toNat, by omega, by omega⟩
    have HP := Shut.mk (show partsE e = [N1, numB m, e.pay] by
      rw [partsE, if_neg (by omega), if_neg (by omega), ← HN1.out, hm]
      rfl)
    have c0 : w4.cell? ⟨w.heap.size, 0, none⟩ = some (.int .i64 3) := c0
    rw [HP.out] at HZ HLN
    clear hk1 HP hgood cf cq cm cy cs HCD HCP HX4
    obtain ⟨_, _, _, _, _, cm, cy, cs⟩ := ent_cells HE.out.ok (HX.out.below HB4.out)
    rw [hm] at cm
    have HCM := Lib.hid (fun (w' : World) (q : Below w4.heap.size w4 w') => (q.cell (p := ⟨w.heap.size, 70, none⟩) (Nat.lt_of_lt_of_le HBL.out HB4.out.size)).trans cm)
    have HCY := Lib.hid (fun (w' : World) (q : Below w4.heap.size w4 w') => (q.cell (p := ⟨w.heap.size, 71, none⟩) (Nat.lt_of_lt_of_le HBL.out HB4.out.size)).trans cy)
    have HNM := Lib.hid (fun w' => rnumref_any m w' hml)
    clear cm cy cs hm
    go_upto_region 9 with (fail)
    refine wp_region_free 7 (fun q V w' => Vals q V [(0, .slice (some ⟨w3.heap.size, 0, none⟩) 1 1), (1, .pointer (some ⟨w.heap.size, 70, none⟩)), (2, .int .i64 (m : Int)), (3, .string ⟨(numB m).toArray⟩), (4, .pointer (some ⟨w.heap.size, 71, none⟩)), (5, .string ⟨e.pay.toArray⟩)] ∧ NewS q V 6 2 ([numB m, e.pay]) w' ∧ Below w4.heap.size w4 w') (fun _ => undef) (by kernel_rfl) (by kernel_rfl) (by kernel_rfl) (by simp only [List.take_succ_cons, List.take_zero, putAll, Act.put, List.setIfInBounds_toArray, List.set_cons_zero, List.set_cons_succ]) ⟨Vals.none, NewS.none, (Below.refl _ _).drew⟩ ?_ ?_
    · simp only [List.take_succ_cons, List.take_zero, putAll, Nat.zero_add, Nat.reduceAdd, Act.put, List.setIfInBounds_toArray, List.set_cons_zero, List.set_cons_succ]
      refine FreeSteps.cons ?_ (FreeSteps.cons ?_ (FreeSteps.cons ?_ (FreeSteps.cons ?_ (FreeSteps.cons ?_ (FreeSteps.cons ?_ (FreeSteps.cons ?_ (FreeSteps.nil)))))))
      all_goals (refine FreeStep.fresh rfl ?_; rintro q V wq hr hu ⟨hVs, h6, hb⟩ K hK)
      · exact op_move (.tmp 3) rfl _ rfl (hK _ _ ⟨hVs.set rfl, h6.ne (by decide) (Below.refl _ _), hb⟩)
      · exact op_fieldAt 30 (.tmp 1) 5 rfl _ _ rfl (field_ent5 w.heap.size) (hK _ _ ⟨hVs.set rfl, h6.ne (by decide) (Below.refl _ _), hb⟩)
      · exact op_load_cell 3 (.tmp 39) rfl _ _ (hVs.get 1 (hr { on := 1, ground := .data } (by simp) rfl) rfl) (HCM.out wq hb) Try.isAgg3 (hK _ _ ⟨hVs.set rfl, h6.ne (by decide) (Below.refl _ _), hb⟩)
      · refine op_call Try.func32 rfl rfl rfl [.int .i64 (m : Int)] ((congrArg (fun x => [x]) (hVs.get 2 (hr { on := 2, ground := .data } (by simp) rfl) rfl))) (HNM.out wq) ?_
        rintro e w' ⟨rfl, hb'⟩
        exact ⟨_, rfl, (hK _ _ ⟨hVs.set rfl, h6.ne (by decide) hb', hb.trans (hb'.mono hb.size)⟩)⟩
      · exact op_fieldAt 30 (.tmp 1) 6 rfl _ _ rfl (field_ent6 w.heap.size) (hK _ _ ⟨hVs.set rfl, h6.ne (by decide) (Below.refl _ _), hb⟩)
      · exact op_load_cell 9 (.tmp 42) rfl _ _ (hVs.get 4 (hr { on := 4, ground := .data } (by simp) rfl) rfl) (HCY.out wq hb) Try.isAgg9 (hK _ _ ⟨hVs.set rfl, h6.ne (by decide) (Below.refl _ _), hb⟩)
      · exact op_build_strs 61 9 2 #[(0, .tmp 41), (1, .tmp 43)] rfl [(0, .string ⟨(numB m).toArray⟩), (1, .string ⟨e.pay.toArray⟩)] _ (by
            have v3 := (hVs.get 3 (hr { on := 3, ground := .data } (by simp) rfl) rfl)
            have v5 := (hVs.get 5 (hr { on := 5, ground := .data } (by simp) rfl) rfl)
            rw [List.map_toArray]
            show [((0 : Nat), V 3), (1, V 5)].toArray = _
            rw [v3, v5]) (built_strs2 _ _) (hK _ _ ⟨hVs.off rfl, .same, hb.alloc hb.size _⟩)
    rintro q V wq hall ⟨hVs, h6, hb⟩
    have v0 := hVs.get 0 (hall 0 (by decide)) rfl
    have v1 := hVs.get 1 (hall 1 (by decide)) rfl
    have v2 := hVs.get 2 (hall 2 (by decide)) rfl
    have v3 := hVs.get 3 (hall 3 (by decide)) rfl
    have v4 := hVs.get 4 (hall 4 (by decide)) rfl
    have v5 := hVs.get 5 (hall 5 (by decide)) rfl
    obtain ⟨g6, v6, hs6⟩ := h6 (hall 6 (by decide))
    simp only [List.take_succ_cons, List.take_zero, List.drop_succ_cons, List.drop_zero, putAll, Nat.zero_add, Nat.reduceAdd, v0, v1, v2, v3, v4, v5, v6, Act.put, List.setIfInBounds_toArray, List.set_cons_zero, List.set_cons_succ]
    clear hVs v0 v1 v2 v3 v4 v5 v6 hall
    obtain ⟨w5, hw5⟩ : ∃ x, x = wq := ⟨_, rfl⟩
    rw [← hw5] at hb hs6 ⊢
    clear hw5
    have HOn := Lib.hid (HO.out.below hb)
    have HB5 := Lib.hid (HB4.out.trans (hb.mono HB4.out.size))
    have HS := Lib.hid hs6
    clear hb hs6 HO HB4
    obtain ⟨NM, hNM⟩ : ∃ x, numB m = x := ⟨_, rfl⟩
    rw [hNM] at HS HZ HLN
    clear hNM
    refine wpList_push_strs rfl _ _ rfl w1.heap.size _ [N1] [NM, e.pay] (some ⟨g6, 0, none⟩) 2 2 rfl rfl HOn.out rfl HS.out (fun h => by cases h) (by simp) HB5.out.size ?_
    intro v6 w6 ho hb _
    obtain ⟨ao6, c6, rfl⟩ := ho.out.form
    have HO6 := Lib.hid ho.out
    have HB6 := Lib.hid (HB5.out.trans hb.out)
    clear ho hb HS HOn HB5
    have c0 : w6.cell? ⟨w.heap.size, 0, none⟩ = some (.int .i64 3) := by
      have h := (ent_cells HE.out.ok (HX.out.below HB6.out)).1
      rw [HK.out] at h
      exact h
    have HS6 := Lib.hid (strsAt_own HO6.out)
    go_wp2_with fail
    refine (rlistref_any ao6 c6 [N1, NM, e.pay] w6 HS6.out (by simp) (by have := HLN.out; omega)).mono ?_
    rintro r wa ⟨rfl, hb⟩
    have HBa := Lib.hid (HB6.out.trans (hb.mono HB6.out.size))
    clear hb
    go_wp2_with fail
    go_ret
    exact ⟨by rw [HZ.out]; rfl, HB.out.trans (HBa.out.mono HB.out.size)⟩
end Go.Proofs.Ytenmkfjgjemiiaa
namespace Go.Proofs.Ytenmkfjgjemiiaa
open Go.RowKit Go.BigFrame
set_option maxHeartbeats 4000000 in
set_option maxRecDepth 100000 in
theorem ref_texts15 (ao : Option Addr) (L : List EntN) (c : Nat) (w : World) (hL : ∀ x ∈ L, x.Len ∧ x.seq < 9223372036854775808) (hn : L.length ≤ 1000000) (hl : (entsB L).length ≤ 9223372036854775000) (hp : EntsAt ao L w) :
    Calls Try.prog 17 #[.slice ao L.length c] w fun e w' => e = .returned (.string ⟨(entsB L).toArray⟩) ∧ Below w.heap.size w w' := by
  have HP := Lib.hid hp
  have HLL := Lib.hid hL
  have HBD := Lib.hid hl
  obtain ⟨n, hnn⟩ : ∃ n, L.length = n := ⟨_, rfl⟩
  have HN := Shut.mk hnn
  rw [hnn] at hn ⊢
  have HZE := Lib.hid (show (Try.prog.info? 30).bind (·.zero) = some (.agg (entL noE).toArray) by kernel_rfl)
  clear hp hL hl hnn
  go_enter Try.func17, Try.ntmps17
  go_wp2_with fail
  go_loopw [3, 8] (fun v i wr => ∃ k : Nat, k ≤ n ∧ i = .int .i64 k ∧ OwnS w.heap.size v ((L.take k).map entB) wr ∧ Below w.heap.size w wr) (fun _ i _ => n - (intOf i).toNat)
  case atStart => exact ⟨0, Nat.zero_le _, rfl, OwnS.nil _ _, Below.refl _ _⟩
  case round =>
    obtain ⟨k, hk, rfl, ho, hb⟩ := hrel
    have HO := Lib.hid ho
    have HBW := Lib.hid hb
    have HPW := Lib.hid (HP.out.below hb)
    clear hb
    by_cases hkn : k < n
    · obtain ⟨y, hy⟩ : ∃ y, L[k]? = some y := ⟨_, List.getElem?_eq_getElem (by rw [HN.out]; exact hkn)⟩
      have HTK := Shut.mk (show (L.take (k + 1)).map entB = (L.take k).map entB ++ [entB y] by
        have h1 : L[k]'(by rw [HN.out]; exact hkn) = y := by
          rw [List.getElem?_eq_getElem (by rw [HN.out]; exact hkn)] at hy
          exact Option.some.inj hy
        rw [List.take_succ_eq_append_getElem (by rw [HN.out]; exact hkn), h1, List.map_append]
        rfl)
      have HY := Lib.hid (HLL.out y (List.mem_of_getElem? hy))
      obtain ⟨b, ob, rfl, hbl, hr⟩ := HPW.out.getM hy
      have HR := Lib.hid hr
      have HSL := Lib.hid (sizeEL HY.out.1.ok)
      have HSV := Lib.hid (sizeEV HY.out.1.ok)
      obtain ⟨M, hM⟩ : ∃ M, (L.take k).map entB = M := ⟨_, rfl⟩
      have HML := Lib.hid (show M.length = k by rw [← hM, List.length_map, List.length_take, HN.out]; omega)
      rw [hM] at HO HTK
      clear hy hbl hr ho hM
      obtain ⟨ap, cp, rfl⟩ := HO.out.form
      rw [HML.out] at HO ⊢
      go_wp2_with (first
        | (refine wpList_load_mid rfl 30 _ rfl b (ob + k * 73) rfl _ _ HR.out Try.underlying30 rfl HSL.out ?_)
        | (refine wpList_alloc_of rfl 30 rfl (entL noE) HZE.out ?_)
        | (refine wpList_store_cells rfl 30 _ _ rfl rfl wr.heap.size (entV noE) (entV y) 30 rfl rfl (heap_alloc_new wr _) HSV.out (by rw [entV_size HY.out.1.ok]; rfl) (entV_all y) ?_))
      intro w4 hc hb
      have hb4 : Below wr.heap.size wr w4 := But.toBelow ((Below.refl _ wr).alloc (Nat.le_refl _) _) hb.out (Nat.le_refl _) (by rw [World.size_alloc]; exact Nat.le_succ _)
      have HC4 := Lib.hid hc.out
      have HB4 := Lib.hid (HBW.out.trans (hb4.mono HBW.out.size))
      have HO4 := Lib.hid (HO.out.below hb4)
      obtain ⟨g5, hg5⟩ : ∃ g, wr.heap.size = g := ⟨_, rfl⟩
      rw [hg5] at HC4 ⊢
      clear hc hb hb4 hg5 HO HR HSL
      go_wp2_with (refine wpList_load_cells rfl 30 _ rfl g5 (entV y) 30 _ rfl HC4.out Try.underlying30 rfl HSV.out ?_)
      refine (ref_text15 y HY.out.1 HY.out.2 w4).mono ?_
      rintro r w5 ⟨rfl, hb⟩
      have HO5 := Lib.hid (HO4.out.below hb)
      have HB5 := Lib.hid (HB4.out.trans (hb.mono HB4.out.size))
      clear hb HO4 HB4 HC4
      obtain ⟨T, hT⟩ : ∃ T, entB y = T := ⟨_, rfl⟩
      rw [hT] at HTK ⊢
      clear hT
      have HS := Lib.hid (strs_lit w5 [T] 9)
      go_wp2_with (refine wpList_push_strs rfl _ _ rfl w.heap.size _ M [T] (some ⟨w5.heap.size, 0, none⟩) 1 1 rfl rfl (HO5.out.below ((Below.refl _ w5).alloc (Nat.le_refl _) _)) rfl HS.out (fun h => by cases h) (by have := HML.out; simp only [List.length_singleton]; omega) (Nat.le_trans HB5.out.size (by rw [World.size_alloc]; exact Nat.le_succ _)) ?_)
      intro v6 w6 ho hb _
      have HO6 := Lib.hid ho.out
      have HB6 := Lib.hid (HB5.out.trans (((Below.refl _ w5).alloc HB5.out.size _).trans hb.out))
      clear ho hb HS HO5 HB5
      go_wp2_with fail
      exact ⟨⟨k + 1, by omega, by go_num, by rw [HTK.out]; exact HO6.out, HB6.out⟩, by simp [intOf]; omega⟩
    · obtain rfl : k = n := by omega
      have hM : (L.take k).map entB = L.map entB := by rw [List.take_of_length_le (by rw [HN.out]; exact Nat.le_refl _)]
      rw [hM] at HO
      obtain ⟨ap, cp, rfl⟩ := HO.out.form
      have HS := Lib.hid (strsAt_own HO.out)
      have HLM := Lib.hid (show (L.map entB).length = k by rw [List.length_map, HN.out])
      have HLI := Lib.hid (rlistref_any ap cp (L.map entB) wr HS.out (by rw [HLM.out]; omega) HBD.out)
      rw [HLM.out] at HLI ⊢
      clear hM ho
      go_wp2_with fail
      refine HLI.out.mono ?_
      rintro r w7 ⟨rfl, hb⟩
      have HB7 := Lib.hid (HBW.out.trans (hb.mono HBW.out.size))
      clear hb HLI
      go_wp2_with fail
      go_ret
      exact ⟨rfl, HB7.out⟩
end Go.Proofs.Ytenmkfjgjemiiaa
namespace Go.Proofs.Ytenmkfjgjemiiaa.entryWrites
open Go.RowKit Go.BigFrame Go.Proofs.Ytenmkfjgjemiiaa
theorem neq_same (a : EntN) (ha : a.Ok) (w : World) : (binOp .neq 30 (.agg (entV a)) (.agg (entV a))).run Try.prog w = .ok (.bool false) w := by
  have h := neq_ent a a ha ha w
  rw [decide_eq_true (rfl : a = a)] at h
  exact h
theorem outL_one (x : OutN) : ∀ u ∈ outL x, u.oneCell' = true := fun u hu => by
  simp only [outL, List.mem_cons, List.not_mem_nil, or_false] at hu
  rcases hu with rfl | rfl <;> rfl
theorem outL_all (x : OutN) : (outL x).toArray.all (·.oneCell') = true := by
  rw [List.all_toArray]
  exact List.all_eq_true.2 (outL_one x)
theorem Try.sizeOut : (Try.prog.info? 35).map (·.size) = some 2 := by kernel_rfl
set_option maxHeartbeats 8000000 in
set_option maxRecDepth 100000 in
theorem walk (w : World) (ao : Option Addr) (L : List EntN) (c : Nat) (hp : EntsAt ao L w) (hL : ∀ x ∈ L, x.In) (hn : L.length ≤ 140737488351232) (bo : Option Addr) (M : List OutN) (d : Nat) (hq : RAt 2 bo (M.map outL) w) (hM : ∀ x ∈ M, x.In) (hm : M.length ≤ 140737488351232) :
    Calls Try.prog 3 #[.slice ao L.length c, .slice bo M.length d] w fun e w' => e = .returned (.bool true) ∧ Below w.heap.size w w' := by
  have HP := Lib.hid hp
  have HIN := Lib.hid hL
  have HQ := Lib.hid hq
  have HIM := Lib.hid hM
  obtain ⟨n, hnn⟩ : ∃ n, L.length = n := ⟨_, rfl⟩
  have HNN := Shut.mk hnn
  obtain ⟨m, hmm⟩ : ∃ n, M.length = n := ⟨_, rfl⟩
  have HMM := Shut.mk hmm
  rw [hnn] at hn ⊢
  rw [hmm] at hm ⊢
  clear hp hL hnn hq hM hmm
  have HZE := Lib.hid (show (Try.prog.info? 30).bind (·.zero) = some (.agg (entL noE).toArray) by kernel_rfl)
  have HZO := Lib.hid (show (Try.prog.info? 35).bind (·.zero) = some (.agg (outL ⟨0, []⟩).toArray) by kernel_rfl)
  go_enter Try.func3, Try.ntmps3
  go_wp2_with fail
  refine (alive15_any w).mono ?_
  rintro e w1 ⟨rfl, hb⟩
  have HB1 := Lib.hid hb
  clear hb
  by_cases h10 : 10 < n
  · have h10i : decide ((10 : Int) < (n : Int)) = true := decide_eq_true (by omega)
    go_wp2_with fail
    go_ret
    exact ⟨rfl, HB1.out⟩
  have h10i : decide ((10 : Int) < (n : Int)) = false := decide_eq_false (by omega)
  by_cases m10 : 10 < m
  · have m10i : decide ((10 : Int) < (m : Int)) = true := decide_eq_true (by omega)
    go_wp2_with fail
    go_ret
    exact ⟨rfl, HB1.out⟩
  have m10i : decide ((10 : Int) < (m : Int)) = false := decide_eq_false (by omega)
  go_wp2_with fail
  go_loopw [23] (fun i wr => ∃ k : Nat, k ≤ n ∧ i = .int .i64 k ∧ Below w.heap.size w wr) (fun i _ => n - (intOf i).toNat)
  case atStart => exact ⟨0, Nat.zero_le _, rfl, HB1.out⟩
  case round =>
    obtain ⟨k, hk, rfl, hb⟩ := hrel
    have HBW := Lib.hid hb
    have HPW := Lib.hid (HP.out.below hb)
    clear hb
    by_cases hlt : k < n
    · obtain ⟨y, hy⟩ : ∃ y, L[k]? = some y := ⟨_, List.getElem?_eq_getElem (by rw [HNN.out]; exact hlt)⟩
      have HYI := Lib.hid (HIN.out y (List.mem_of_getElem? hy))
      obtain ⟨b, ob, rfl, hbl, hr⟩ := HPW.out.getM hy
      have HR := Lib.hid hr
      have HSO := Lib.hid (sizeEL HYI.out.ok)
      have HSV := Lib.hid (sizeEV HYI.out.ok)
      have HSZ := Lib.hid (show (entV noE).size = (entV y).size by rw [entV_size HYI.out.ok]; rfl)
      clear hy hr hbl
      go_wp2_with (first
        | (refine wpList_load_mid rfl 30 _ rfl b (ob + k * 73) rfl _ _ HR.out Try.underlying30 rfl HSO.out ?_)
        | (refine wpList_alloc_of rfl 30 rfl (entL noE) HZE.out ?_)
        | (refine wpList_store_cells rfl 30 _ _ rfl rfl wr.heap.size (entV noE) (entV y) 30 rfl rfl (heap_alloc_new wr _) HSV.out HSZ.out (entV_all y) ?_))
      intro w4 hc hb
      have hb4 : Below wr.heap.size wr w4 := But.toBelow ((Below.refl _ wr).alloc (Nat.le_refl _) _) hb.out (Nat.le_refl _) (by rw [World.size_alloc]; exact Nat.le_succ _)
      have HC4 := Lib.hid hc.out
      have HB4 := Lib.hid (HBW.out.trans (hb4.mono HBW.out.size))
      obtain ⟨g5, hg5⟩ : ∃ g, wr.heap.size = g := ⟨_, rfl⟩
      rw [hg5] at HC4 ⊢
      clear hc hb hb4 HBW HR HSO hg5
      have HG := Lib.hid (fun w' => great15_any y HYI.out.len w')
      obtain ⟨gr, hgr⟩ : ∃ g, great15N y = g := ⟨_, rfl⟩
      rw [hgr] at HG
      clear hgr
      go_wp2_with (refine wpList_load_cells rfl 30 _ rfl g5 (entV y) 30 _ rfl HC4.out Try.underlying30 rfl HSV.out ?_)
      refine (HG.out w4).mono ?_
      rintro e w5 ⟨rfl, hb⟩
      have HC5 := Lib.hid (HC4.out.below hb)
      have HB5 := Lib.hid (HB4.out.trans (hb.mono HB4.out.size))
      clear hb HC4 HB4 HG
      cases gr with
      | true =>
        go_wp2_with fail
        go_ret
        exact ⟨rfl, HB5.out⟩
      | false =>
      have HTX := Lib.hid (fun w' => dev_text15 y HYI.out.len HYI.out.fit.seq w')
      have HTR := Lib.hid (fun w' => ref_text15 y HYI.out.len HYI.out.fit.seq w')
      have HGD := Lib.hid (fun w' => dev_good15 y HYI.out.len w')
      have HGR := Lib.hid (fun w' => ref_good15 y HYI.out.len w')
      obtain ⟨T, hT⟩ : ∃ T, entB y = T := ⟨_, rfl⟩
      obtain ⟨z, hz⟩ : ∃ z, decide (GoodE y) = z := ⟨_, rfl⟩
      rw [hT] at HTX HTR
      rw [hz] at HGD HGR
      have HLC := Lib.hid (fun (w' : World) (q : Below w5.heap.size w5 w') => HC5.out.below q)
      have HNT := Lib.hid (show ∀ w', (binOp .neq 9 (.string ⟨T.toArray⟩) (.string ⟨T.toArray⟩)).run Try.prog w' = .ok (.bool false) w' from fun w' => by go_simp)
      have HNZ := Lib.hid (show ∀ w', (binOp .neq 4 (.bool z) (.bool z)).run Try.prog w' = .ok (.bool false) w' from fun w' => by cases z <;> kernel_rfl)
      clear hT hz HC5
      go_upto_region 10 with (fail)
      refine wp_region_class (fun w' => Below w5.heap.size w5 w') (by kernel_rfl) (by kernel_rfl) (Below.refl _ _).drew ?_
      repeat (first
        | go_big_quiet_skip
        | (go_big_quiet_want; refine quiet_load_cells 30 _ rfl g5 (entV y) 30 _ rfl HLC.out Try.underlying30 rfl HSV.out ?_; go_big_quiet_on; simp only [Act.put, List.setIfInBounds_toArray, List.set_cons_zero, List.set_cons_succ])
        | (go_big_quiet_want; refine quiet_bin .neq 4 _ _ _ rfl (.bool z) (.bool z) _ rfl rfl (fun _ => rfl) HNZ.out ?_; go_big_quiet_on; simp only [Act.put, List.setIfInBounds_toArray, List.set_cons_zero, List.set_cons_succ])
        | (go_big_quiet_want; refine quiet_bin .neq 9 _ _ _ rfl (.string ⟨T.toArray⟩) (.string ⟨T.toArray⟩) _ rfl rfl (fun _ => rfl) HNT.out ?_; go_big_quiet_on; simp only [Act.put, List.setIfInBounds_toArray, List.set_cons_zero, List.set_cons_succ])
        | go_big_quiet_step ((intro hs'; first
            | (go_at_call 10; exact (HGD.out _).mono fun e w' h => ⟨h.1, hs'.trans (h.2.mono hs'.size)⟩)
            | (go_at_call 11; exact (HGR.out _).mono fun e w' h => ⟨h.1, hs'.trans (h.2.mono hs'.size)⟩)
            | (go_at_call 12; exact (HTX.out _).mono fun e w' h => ⟨h.1, hs'.trans (h.2.mono hs'.size)⟩)
            | (go_at_call 13; exact (HTR.out _).mono fun e w' h => ⟨h.1, hs'.trans (h.2.mono hs'.size)⟩)
            | rfl)))
      refine wpQuiet_nil ?_
      intro w9 hs
      have HB9 := Lib.hid (HB5.out.trans (hs.mono HB5.out.size))
      clear hs HB5 HLC
      go_wp2_with fail
      exact ⟨⟨k + 1, by omega, by go_num, HB9.out⟩, by simp [intOf]; omega⟩
    · obtain rfl : k = n := by omega
      have HQW := Lib.hid (HQ.out.below HBW.out)
      have HOU := Lib.hid (dev_outs15 bo M d wr (by rw [HMM.out]; omega) HQW.out)
      rw [HMM.out] at HOU
      go_wp2_with fail
      refine HOU.out.mono ?_
      rintro e w2 ⟨⟨v, rfl, hov⟩, hb⟩
      obtain ⟨av, cv, rfl⟩ := hov.form
      have HV2 := Lib.hid hov.at
      have HVO := Lib.hid hov.2
      have HB2 := Lib.hid (HBW.out.trans (hb.mono HBW.out.size))
      rw [List.length_map, HMM.out]
      clear hov hb HOU HQW HPW
      go_wp2_with fail
      go_loopw [46] (fun i wq => ∃ j : Nat, j ≤ m ∧ i = .int .i64 j ∧ Below w2.heap.size w2 wq) (fun i _ => m - (intOf i).toNat)
      case atStart => exact ⟨0, Nat.zero_le _, rfl, Below.refl _ _⟩
      case round =>
        obtain ⟨wx, rfl⟩ : ∃ z, z = wr := ⟨_, rfl⟩
        obtain ⟨j, hj, rfl, hb⟩ := hrel
        have HBX := Lib.hid (HB2.out.trans (hb.mono HB2.out.size))
        have HVX := Lib.hid (HV2.out.below hb)
        have HQX := Lib.hid (HQ.out.below HBX.out)
        have HBY := Lib.hid hb
        clear hb
        by_cases hjl : j < m
        · obtain ⟨x, hx⟩ : ∃ x, M[j]? = some x := ⟨_, List.getElem?_eq_getElem (by rw [HMM.out]; exact hjl)⟩
          have HXI := Lib.hid (HIM.out x (List.mem_of_getElem? hx))
          obtain ⟨b, ob, rfl, hbl, hr⟩ := HQX.out.getM hx
          obtain ⟨b2, ob2, rfl, hbl2, hr2⟩ := HVX.out.getM (show (M.map fun o => outE o.mask o.pay)[j]? = some (outE x.mask x.pay) by rw [List.getElem?_map, hx]; rfl)
          have HR := Lib.hid hr
          have HR2 := Lib.hid (fun (w' : World) (k : Below wx.heap.size wx w') => show w'.rangeAt b2 (ob2 + j * 73) (entL (outE x.mask x.pay)) from rangeAt_belowI hr2 k hbl2)
          have HSO := Lib.hid (show (Try.prog.info? 35).map (·.size) = some (outL x).length from Try.sizeOut)
          have HSW := Lib.hid (show (Try.prog.info? 35).map (·.size) = some (outL x).toArray.size from Try.sizeOut)
          clear hx hbl hr hbl2 hr2
          go_wp2_with (first
            | (refine wpList_load_mid rfl 35 _ rfl b (ob + j * 2) rfl _ _ HR.out Try.underlying35 rfl HSO.out ?_)
            | (refine wpList_alloc_of rfl 35 rfl (outL ⟨0, []⟩) HZO.out ?_)
            | (refine wpList_store_cells rfl 35 _ _ rfl rfl wx.heap.size (outL ⟨0, []⟩).toArray (outL x).toArray 35 rfl rfl (heap_alloc_new wx _) HSW.out rfl (outL_all x) ?_))
          intro w4 hc hb
          have hb4 : Below wx.heap.size wx w4 := But.toBelow ((Below.refl _ wx).alloc (Nat.le_refl _) _) hb.out (Nat.le_refl _) (by rw [World.size_alloc]; exact Nat.le_succ _)
          have HC4 := Lib.hid hc.out
          have HB4 := Lib.hid hb4
          obtain ⟨g9, hg9⟩ : ∃ g, wx.heap.size = g := ⟨_, rfl⟩
          rw [hg9] at HC4 ⊢
          clear hc hb hb4 HR hg9
          have c0 : w4.cell? ⟨g9, 0, none⟩ = some (.int .i64 x.mask) := by rw [HC4.out.at]; rfl
          have c1 : w4.cell? ⟨g9, 1, none⟩ = some (.string ⟨x.pay.toArray⟩) := by rw [HC4.out.at]; rfl
          have HOK := Lib.hid (outE_ok x.mask x.pay)
          have HBO := Lib.hid (built_out x.mask x.pay)
          have HNE := Lib.hid (neq_same (outE x.mask x.pay) HOK.out)
          have HNG := Lib.hid (fun a b w => guard_ent .neq (.inr rfl) a b (entV (outE x.mask x.pay)) (entV (outE x.mask x.pay)) w)
          have HOO := Lib.hid (fun w' => dev_out15 x.mask x.pay w')
          have HSE := Lib.hid (sizeEV HOK.out)
          have HSL := Lib.hid (sizeEL HOK.out)
          have HSZ := Lib.hid (show (entV noE).size = (entV (outE x.mask x.pay)).size by rw [entV_size HOK.out]; rfl)
          obtain ⟨mk, hmk⟩ : ∃ y, x.mask = y := ⟨_, rfl⟩
          obtain ⟨py, hpy⟩ : ∃ y, x.pay = y := ⟨_, rfl⟩
          rw [hmk] at c0
          rw [hpy] at c1
          rw [hmk, hpy] at HBO HOO HR2 HNE HNG HOK HSE HSZ HSL
          obtain ⟨W, hW⟩ : ∃ y, outE mk py = y := ⟨_, rfl⟩
          rw [hW] at HBO HOO HR2 HNE HNG HOK HSE HSZ HSL
          have HCX := Lib.hid (show (outL x).toArray = #[.int .i64 mk, .string ⟨py.toArray⟩] by rw [← hmk, ← hpy]; rfl)
          rw [HCX.out] at HC4 HSW ⊢
          clear hmk hpy hW
          go_wp2_with (first
            | (refine wpList_build_val rfl 30 _ rfl [(0, .int .i64 3), (5, .int .i64 mk), (6, .string ⟨py.toArray⟩)] _ (by rw [List.map_toArray]; rfl) HBO.out ?_)
            | (refine wpList_alloc_of rfl 30 rfl (entL noE) HZE.out ?_)
            | (refine wpList_store_cells rfl 30 _ _ rfl rfl w4.heap.size (entV noE) (entV W) 30 rfl rfl (heap_alloc_new w4 _) HSE.out HSZ.out (entV_all W) ?_))
          intro w5 hc hb
          have hb5 : Below w4.heap.size w4 w5 := But.toBelow ((Below.refl _ w4).alloc (Nat.le_refl _) _) hb.out (Nat.le_refl _) (by rw [World.size_alloc]; exact Nat.le_succ _)
          have HW5 := Lib.hid hc.out
          have HC5 := Lib.hid (HC4.out.below hb5)
          have HB5 := Lib.hid (HB4.out.trans (hb5.mono HB4.out.size))
          obtain ⟨gw, hgw⟩ : ∃ g, w4.heap.size = g := ⟨_, rfl⟩
          rw [hgw] at HW5 ⊢
          clear hc hb hb5 hgw HC4 HB4 c0 c1
          have HLC := Lib.hid (fun (w' : World) (q : Below w5.heap.size w5 w') => HC5.out.below q)
          have HLW := Lib.hid (fun (w' : World) (q : Below w5.heap.size w5 w') => HW5.out.below q)
          have HLR := Lib.hid (fun (w' : World) (q : Below w5.heap.size w5 w') => HR2.out w' (HB5.out.trans (q.mono HB5.out.size)))
          clear HW5 HC5 HR2
          have hji : (j : Int) < (m : Int) := by omega
          go_upto_region 18 with (fail)
          refine wp_region_class (fun w' => Below w5.heap.size w5 w') (by kernel_rfl) (by kernel_rfl) (Below.refl _ _).drew ?_
          repeat (first
            | go_big_quiet_skip
            | (go_big_quiet_want; refine quiet_load_cells 35 _ rfl g9 #[.int .i64 mk, .string ⟨py.toArray⟩] 35 _ rfl HLC.out Try.underlying35 rfl HSW.out ?_; go_big_quiet_on; simp only [Act.put, List.setIfInBounds_toArray, List.set_cons_zero, List.set_cons_succ])
            | (go_big_quiet_want; refine quiet_load_cells 30 _ rfl gw (entV W) 30 _ rfl HLW.out Try.underlying30 rfl HSE.out ?_; go_big_quiet_on; simp only [Act.put, List.setIfInBounds_toArray, List.set_cons_zero, List.set_cons_succ])
            | (go_big_quiet_want; refine quiet_load_row 30 _ rfl b2 (ob2 + j * 73) (entL W) _ rfl HLR.out Try.underlying30 rfl HSL.out ?_; go_big_quiet_on; simp only [Act.put, List.setIfInBounds_toArray, List.set_cons_zero, List.set_cons_succ])
            | (go_big_quiet_want; refine quiet_bin .neq 30 _ _ _ rfl (.agg (entV W)) (.agg (entV W)) _ rfl rfl (HNG.out _ _) HNE.out ?_; go_big_quiet_on; simp only [Act.put, List.setIfInBounds_toArray, List.set_cons_zero, List.set_cons_succ])
            | go_big_quiet_step ((intro hs'; first
                | (go_at_call 15; exact (HOO.out _).mono fun e w' h => ⟨h.1, hs'.trans (h.2.mono hs'.size)⟩)
                | rfl)))
          refine wpQuiet_nil ?_
          intro w9 hs
          have HB9 := Lib.hid (HBY.out.trans ((HB5.out.trans (hs.mono HB5.out.size)).mono HBY.out.size))
          clear hs HB5 HLC HLW HLR
          go_wp2_with fail
          exact ⟨⟨j + 1, by omega, by go_num, HB9.out⟩, by simp [intOf]; omega⟩
        · obtain rfl : j = m := by omega
          have HFT := Lib.hid (fun x hx => (HIN.out x hx).fit)
          have HPX := Lib.hid (HP.out.below HBX.out)
          have HT1 := Lib.hid (fun w' (k : Below wx.heap.size wx w') => dev_texts15 ao L c w' (fun x hx => ⟨(HIN.out x hx).len, (HIN.out x hx).fit.seq⟩) (by rw [HNN.out]; omega) (by have := entsB_le HFT.out (by rw [HNN.out]; omega); omega) (HPX.out.below k))
          have HT2 := Lib.hid (fun w' (k : Below wx.heap.size wx w') => ref_texts15 ao L c w' (fun x hx => ⟨(HIN.out x hx).len, (HIN.out x hx).fit.seq⟩) (by rw [HNN.out]; omega) (by have := entsB_le HFT.out (by rw [HNN.out]; omega); omega) (HPX.out.below k))
          obtain ⟨T, hT⟩ : ∃ T, entsB L = T := ⟨_, rfl⟩
          rw [hT] at HT1 HT2
          rw [HNN.out] at HT1 HT2
          clear hT
          go_wp2_with fail
          refine (HT1.out wx (Below.refl _ _)).mono ?_
          rintro e w6 ⟨rfl, hb⟩
          have HB6 := Lib.hid (HBX.out.trans (hb.mono HBX.out.size))
          have HT3 := Lib.hid (HT2.out w6 hb)
          clear hb
          go_wp2_with fail
          refine HT3.out.mono ?_
          rintro e w7 ⟨rfl, hb⟩
          have HB7 := Lib.hid (HB6.out.trans (hb.mono HB6.out.size))
          clear hb
          go_wp2_with fail
          go_ret
          exact ⟨rfl, HB7.out⟩
end Go.Proofs.Ytenmkfjgjemiiaa.entryWrites
namespace Go.Proofs.Ytenmkfjgjemiiaa.entryWrites
open Go.ChangeShapes Go.WideShapes Go.ChangeAt Go.RowKit
open Go.ChangeMaps (open_string shut_string)
set_option linter.unusedVariables false
set_option maxRecDepth 100000 in
theorem lifted (os : Os) (started : os.Started) (H : Type) (enc : TypeId × Value → H) :
    ReturnsInHanded {} Try.checked os 3 .any (Rows.entryWritesSpec.pre6 enc Try.prog Try.f3 Rows.entryWritesRow.domain false) (Rows.entryWritesSpec.post enc Try.prog Try.f3 false true false false) := by
  refine returnsInHanded_of_change_sized (C := Try.checked) law_own started (by kernel_rfl) Try.func3
    (ChangeSpec.witness6 (enc := enc) (C := Try.checked) false ⟨#[], #[.slice none 0 0, .slice none 0 0], []⟩ 8 (by kernel_rfl) (by kernel_rfl) (by kernel_rfl) (by kernel_rfl)) ?_
  intro W base args ds gs before hval0 hW hcnd hsz0 _
  have hsz : (DataW.weightsEach Try.prog (Try.f3.params.toList ++ Rows.entryWritesSpec.plain.varTypes Try.prog) (ds ++ gs)).all (· ≤ reachBytes) = true := hsz0
  have hval : ∀ (j : Nat) t v, Try.f3.params[j]? = some t → args[j]? = some v → Value.okWide Try.prog W .any base t v := hval0
  have hW' := hW
  obtain ⟨p, q, hA0, hV, rfl, hfz, hnd⟩ := hW
  have hA : DataW.TrodAll enc Try.prog W 0 (fun _ => true) true Try.f3.params.toList args.toList ds p := hA0
  rw [Try.params3] at hA hval hsz
  obtain ⟨v0, vs0, d0, ds0, p0, q0, hargs, rfl, rfl, h0, r0⟩ := trodAll_cons hA
  obtain ⟨v1, vs1, d1, ds1, p1, q1, rfl, rfl, rfl, h1, r1⟩ := trodAll_cons r0
  obtain ⟨rfl, rfl, rfl⟩ := trodAll_nil r1
  obtain rfl : args = #[v0, v1] := by cases args; simp_all
  obtain ⟨rfl, rfl⟩ := trodVars_none hV
  have k0 := h0
  have lt0 : ∀ x ∈ p0, x.block < W.heap.size := by obtain ⟨m, hm⟩ := k0; exact DataW.trod_lt m _ _ _ hm
  have z0 : ∀ n ∈ DataW.weights Try.prog 22 d0, n ≤ 140737488351232 := fun n hn => of_decide_eq_true (List.all_eq_true.1 hsz n (DataW.weights_mem_each (j := 0) (t := 22) rfl rfl n hn))
  obtain ⟨ao0, l0, c0, rfl, s0, n0, t0⟩ := open_ents (hval 0 22 v0 rfl rfl) h0 z0
  have k1 := h1
  have lt1 : ∀ x ∈ p1, x.block < W.heap.size := by obtain ⟨m, hm⟩ := k1; exact DataW.trod_lt m _ _ _ hm
  have z1 : ∀ n ∈ DataW.weights Try.prog 23 d1, n ≤ 140737488351232 := fun n hn => of_decide_eq_true (List.all_eq_true.1 hsz n (DataW.weights_mem_each (j := 1) (t := 23) rfl rfl n hn))
  obtain ⟨ao1, l1, c1, rfl, s1, n1, t1⟩ := open_outs (hval 1 23 v1 rfl rfl) h1 z1
  clear hA0 hval0
  refine (walk W ao0 l0 c0 s0 n0 t0 ao1 l1 c1 s1 n1 t1).mono fun e W' ⟨he, bel⟩ => ?_
  subst he
  exact ⟨_, rfl, _, _, _, [], _, [], hW', trodAll_mk1 (shut_bool Try.underlying4 _), (trodAll_cons_mk (Below.trod law_laidOut (by kernel_rfl) (of_decide_eq_true (by kernel_rfl)) k0 bel lt0) (trodAll_cons_mk (Below.trod law_laidOut (by kernel_rfl) (of_decide_eq_true (by kernel_rfl)) k1 bel lt1) trodAll_mk0)), rfl, bel.frame _, fun h => by cases h⟩
theorem proved : Rows.EntryWritesSaid :=
  OpenClaim.holds_of_wide 3 Try.f3 rfl rfl rfl rfl rfl rfl rfl ⟨rfl, rfl, rfl, rfl, rfl⟩ rfl rfl rfl rfl rfl (by kernel_rfl) Try.func3 (by kernel_rfl)
    (of_decide_eq_true (by kernel_rfl)) (by unfold Func.isWrapper; first | (rw [if_pos (by decide +kernel)]; kernel_rfl) | (rw [if_neg (by decide +kernel)]; exact ⟨rfl, rfl⟩))
    (fun os started H enc _ => lifted os started H enc)
#print axioms proved
end Go.Proofs.Ytenmkfjgjemiiaa.entryWrites
