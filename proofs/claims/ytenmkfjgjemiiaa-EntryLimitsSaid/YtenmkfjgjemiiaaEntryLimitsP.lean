/-
  The law EntryLimits: for every input it answers true, and its arguments read as they did. No condition.
-/
import Derived.BigQuiet
import Derived.BigRegion
import Derived.ChangeAlike
import Derived.Deep.Cut
import Derived.Deep.CutRange
import Derived.Deep.MidRow
import Derived.Deep.Quiet
import Derived.Deep.QuietTactic
import Derived.Deep.RegionWith
import Derived.Great.BuildSlice
import Derived.Laws.BytesString
import Derived.Laws.CopyOwn
import Derived.Laws.DeepStrings4
import Derived.Laws.IdiomCopy
import Derived.Laws.ResultCell
import Derived.Laws.Rows
import Derived.Laws.StructEq
import Derived.Lib.BitFns
import Derived.Lib.BufferWrite
import Derived.Lib.Builder
import Derived.Lib.Hide
import Derived.Maps.AppendAt
import Derived.OpenShut
import Derived.RegionTactic
import Derived.Shelf.LaysM
import Derived.Shelf.Strconv.Clone
import Derived.StillTail
import Derived.StillTailTactics
import Derived.Stop.BytesEq
import Derived.Test.YtenmkfjgjemiiaaChecked
import Derived.Test.YtenmkfjgjemiiaaProg
import Derived.WalkKit
import Derived.Test.YtenmkfjgjemiiaaJ01
import Derived.Test.YtenmkfjgjemiiaaJ02
namespace Go.Proofs.Ytenmkfjgjemiiaa
theorem takeNum_some {s : List UInt8} {n : Nat} {r : List UInt8} (h : takeNum s = some (n, r)) : s = numB n ++ r ∧ n < 9223372036854775808 := by
  cases s with
  | nil => cases h
  | cons k t =>
    simp only [takeNum] at h
    split at h
    · rename_i hc
      simp only [Option.some.injEq, Prod.mk.injEq] at h
      obtain ⟨rfl, rfl⟩ := h
      refine ⟨?_, hc.2.1⟩
      rw [hc.2.2, List.cons_append, List.take_append_drop]
    · cases h
theorem takeNum_lt {s : List UInt8} {n : Nat} {r : List UInt8} (h : takeNum s = some (n, r)) : n < 9223372036854775808 := (takeNum_some h).2
theorem takeNum_len {s : List UInt8} {n : Nat} {r : List UInt8} (h : takeNum s = some (n, r)) : r.length < s.length := by
  rw [(takeNum_some h).1]; have := numB_pos n; simp; omega
theorem takeText_some {s t r : List UInt8} (h : takeText s = some (t, r)) : s = textB t ++ r := by
  unfold takeText at h
  split at h
  · cases h
  · rename_i n q hq
    split at h
    · rename_i hn
      simp only [Option.some.injEq, Prod.mk.injEq] at h
      obtain ⟨rfl, rfl⟩ := h
      have := (takeNum_some hq).1
      rw [this, textB, List.length_take, show min n q.length = n by omega, List.append_assoc, List.take_append_drop]
    · cases h
theorem takeTexts_some : ∀ (k : Nat) (s : List UInt8) (l : List (List UInt8)) (r : List UInt8), takeTexts k s = some (l, r) → s = textsB l ++ r ∧ l.length = k := by
  intro k
  induction k with
  | zero => intro s l r h; simp only [takeTexts, Option.some.injEq, Prod.mk.injEq] at h; obtain ⟨rfl, rfl⟩ := h; simp [textsB]
  | succ k ih =>
    intro s l r h
    simp only [takeTexts] at h
    split at h
    · cases h
    · rename_i t q hq
      split at h
      · cases h
      · rename_i l' q' hq'
        simp only [Option.some.injEq, Prod.mk.injEq] at h
        obtain ⟨rfl, rfl⟩ := h
        obtain ⟨e1, e2⟩ := ih _ _ _ hq'
        rw [takeText_some hq, e1, textsB_cons, List.append_assoc]
        exact ⟨rfl, by simp [e2]⟩
theorem takeTexts_succ : ∀ (k : Nat) (s : List UInt8), takeTexts (k + 1) s = match takeTexts k s with
    | none => none
    | some (l, r) => match takeText r with
      | none => none
      | some (t, q) => some (l ++ [t], q) := by
  intro k
  induction k with
  | zero => intro s; simp only [takeTexts]; cases takeText s <;> rfl
  | succ k ih =>
    intro s
    rw [takeTexts]
    cases h1 : takeText s with
    | none => simp [takeTexts, h1]
    | some p =>
      obtain ⟨t, r⟩ := p
      simp only [ih r]
      simp only [takeTexts, h1]
      cases h2 : takeTexts k r with
      | none => rfl
      | some p2 =>
        obtain ⟨l, q⟩ := p2
        simp only
        cases h3 : takeText q with
        | none => rfl
        | some p3 => obtain ⟨t3, q3⟩ := p3; rfl
theorem takeTexts_none_mono {k : Nat} {s : List UInt8} (h : takeTexts k s = none) : ∀ m, k ≤ m → takeTexts m s = none := by
  intro m hm
  induction m with
  | zero => have : k = 0 := by omega
            subst this; exact h
  | succ m ih =>
    by_cases e : k = m + 1
    · subst e; exact h
    · rw [takeTexts_succ, ih (by omega)]
theorem takeList_some {s : List UInt8} {l : List (List UInt8)} {r : List UInt8} (h : takeList s = some (l, r)) : s = listB l ++ r ∧ l.length ≤ 4096 := by
  unfold takeList at h
  split at h
  · cases h
  · rename_i n q hq
    split at h
    · rename_i hn
      obtain ⟨e1, e2⟩ := takeTexts_some _ _ _ _ h
      rw [(takeNum_some hq).1, e1, listB, e2, List.append_assoc]
      exact ⟨rfl, by omega⟩
    · cases h
theorem textsB_length_ge (l : List (List UInt8)) : l.length ≤ (textsB l).length := by
  induction l with
  | nil => simp
  | cons t l ih =>
    rw [textsB_cons, List.length_append, List.length_cons, textB_length]
    have := numB_pos t.length
    omega
theorem listB_length_ge (l : List (List UInt8)) : l.length ≤ (listB l).length := by
  rw [listB_length]; have := textsB_length_ge l; omega
theorem takeTexts_len {k : Nat} {s : List UInt8} {l : List (List UInt8)} {r : List UInt8} (h : takeTexts k s = some (l, r)) : r.length ≤ s.length := by
  have := (takeTexts_some _ _ _ _ h).1
  rw [this]; simp
theorem splitB_some {s : List UInt8} {l : List (List UInt8)} (h : splitB s = some l) : listB l = s := by
  unfold splitB at h
  split at h
  · cases h
  · cases ht : takeList s with
    | none => rw [ht] at h; cases h
    | some p =>
      obtain ⟨l', r⟩ := p
      rw [ht] at h
      cases r with
      | nil =>
        have e : l' = l := by simpa using h
        subst e
        have := (takeList_some ht).1
        rw [List.append_nil] at this
        exact this.symm
      | cons => cases h
end Go.Proofs.Ytenmkfjgjemiiaa
namespace Go.Proofs.Ytenmkfjgjemiiaa
open Go.RowKit
theorem But.setCell {b : Nat} {w w' : World} (h : But b w w') (o : Nat) (v : Value) : But b w (w'.setCell ⟨b, o, none⟩ v) :=
  h.trans ⟨rfl, rfl, rfl, by simp [World.setCell], fun k _ hb => Below.heap_setCell _ _ _ _ hb⟩
theorem But.below {b : Nat} {w w1 w2 : World} (h : But b w w1) (k : Below w1.heap.size w1 w2) : But b w w2 :=
  ⟨k.os.trans h.os, k.tape.trans h.tape, k.output.trans h.output, Nat.le_trans h.size k.size, fun i hi hb => (k.block i (Nat.lt_of_lt_of_le hi h.size)).trans (h.block i hi hb)⟩
theorem heap_setCell_at {w : World} {b o : Nat} {v : Value} {c : Array Value} {t : TypeId} {z : Nat × Nat} (h : w.heap[b]? = some (.cells c t z)) :
    (w.setCell ⟨b, o, none⟩ v).heap[b]? = some (.cells (c.setIfInBounds o v) t z) := by
  have hlt := lt_of_block h
  have h' : w.heap[b] = .cells c t z := by simpa [Array.getElem?_eq_getElem hlt] using h
  show (w.heap.modify b _)[b]? = _
  rw [Array.getElem?_eq_getElem (by simpa using hlt), Array.getElem_modify_self, h']
  simp
theorem extract_head (s : List UInt8) (n : Nat) : (⟨s.toArray⟩ : ByteArray).extract 0 n = ⟨(s.take n).toArray⟩ := by
  apply ByteArray.ext
  simp [ByteArray.data_extract]
theorem extract_tail (s : List UInt8) (n : Nat) : (⟨s.toArray⟩ : ByteArray).extract n s.length = ⟨(s.drop n).toArray⟩ := by
  apply ByteArray.ext
  simp only [ByteArray.data_extract]
  rw [List.extract_toArray]
  congr 1
  rw [List.extract_eq_take_drop, List.take_of_length_le (by simp)]
theorem Try.infoString : (Try.prog.info? 9).map (fun i => (i.zero, i.size, i.bytes)) = some (some (.string ⟨#[]⟩), 1, 16) := by kernel_rfl
theorem strs_snoc (l : List (List UInt8)) (t : List UInt8) : strs (l ++ [t]) = strs l ++ [.string ⟨t.toArray⟩] := by simp [strs]
theorem OwnS.nil (B : Nat) (w : World) : OwnS B (.slice none 0 0) [] w := World.ownsRow_nil _ _ _ _
theorem OwnS.form {B : Nat} {v : Value} {l : List (List UInt8)} {w : World} (h : OwnS B v l w) : ∃ ao cap, v = .slice ao l.length cap := by
  rcases h.2 with ⟨hv, h0⟩ | ⟨g, cap, cur, hv, _⟩
  · exact ⟨none, 0, by rw [hv, h0]⟩
  · exact ⟨_, _, hv⟩
theorem OwnS.but {B b : Nat} {v : Value} {l : List (List UInt8)} {w w' : World} (h : OwnS B v l w) (k : But b w w') (hb : b < B) : OwnS B v l w' := by
  refine World.ownsRow.kept (row := some b) h ⟨k.os, k.tape, k.output, k.size, fun i hi hne => k.block i hi (fun e => hne (by rw [e]))⟩ ?_
  rcases h.2 with ⟨hv, _⟩ | ⟨g, cap, cur, hv, hg, _⟩
  · exact Or.inl (by rw [hv]; rfl)
  · refine Or.inr ?_
    rw [hv]
    simp only [Value.ownBlock, ne_eq, Option.some.injEq]
    omega
theorem OwnS.mono {B B' : Nat} {v : Value} {l : List (List UInt8)} {w : World} (h : OwnS B v l w) (hB : B' ≤ B) : OwnS B' v l w := by
  refine ⟨h.1, ?_⟩
  rcases h.2 with h0 | ⟨g, cap, cur, hv, hg, r⟩
  · exact Or.inl h0
  · exact Or.inr ⟨g, cap, cur, hv, by omega, r⟩
end Go.Proofs.Ytenmkfjgjemiiaa
namespace Go.Proofs.Ytenmkfjgjemiiaa
open Go.RowKit
def OwnN (B : Nat) (e : TypeId) (k : IntKind) (v : Value) (l : List Nat) (w : World) : Prop := w.ownsRow B e 1 v l.length (nums k l)
theorem OwnN.below {B : Nat} {e : TypeId} {k : IntKind} {v : Value} {l : List Nat} {w w' : World} (h : OwnN B e k v l w) (b : Below w.heap.size w w') : OwnN B e k v l w' := by
  refine World.ownsRow.kept (row := none) h ⟨b.os, b.tape, b.output, b.size, fun i hi _ => b.block i hi⟩ ?_
  rcases h.2 with ⟨hv, _⟩ | ⟨g, cap, cur, hv, hg, _⟩
  · exact Or.inl (by rw [hv]; rfl)
  · exact Or.inr (by rw [hv]; simp [Value.ownBlock])
theorem byteNs_len (s : List UInt8) : (byteNs s).length = s.length := by simp [byteNs]
theorem Try.infoU8 : (Try.prog.info? 5).map (fun i => (i.zero, i.size, i.bytes)) = some (some (.int .u8 0), 1, 1) := by kernel_rfl
theorem OwnN.formB {B : Nat} {e : TypeId} {k : IntKind} {v : Value} {l : List Nat} {w : World} (h : OwnN B e k v l w) (h0 : 0 < l.length) : ∃ g cap, v = .slice (some ⟨g, 0, none⟩) l.length cap ∧ B ≤ g ∧ g < w.heap.size := by
  rcases h.2 with ⟨_, h1⟩ | ⟨g, cap, cur, hv, hb, hg, _⟩
  · omega
  · exact ⟨g, cap, hv, hb, lt_of_block hg⟩
theorem byteCells_nums (l : List UInt8) : Lib.byteCells l = nums .u8 (byteNs l) := by simp [Lib.byteCells, nums, byteNs]
theorem byteNs_lt (r : List UInt8) : ∀ x ∈ byteNs r, x < 256 := by
  intro x h
  simp only [byteNs, List.mem_map] at h
  obtain ⟨b, _, rfl⟩ := h
  exact b.toNat_lt
theorem txt_byteNs (s : List UInt8) : txt (byteNs s) = s := by
  induction s with
  | nil => rfl
  | cons b s ih =>
    rw [byteNs, List.map_cons, txt, List.map_cons, show UInt8.ofNat b.toNat = b by simp]
    exact congrArg _ ih
end Go.Proofs.Ytenmkfjgjemiiaa
namespace Go.Proofs.Ytenmkfjgjemiiaa
open Go.RowKit
theorem listB_inj {a b : List (List UInt8)} (ha : a.length ≤ 4096) (hb : b.length ≤ 4096) (la : ∀ t ∈ a, t.length < 9223372036854775808) (lb : ∀ t ∈ b, t.length < 9223372036854775808) (h : listB a = listB b) : a = b := by
  have h1 := takeList_listB ha la []
  have h2 := takeList_listB hb lb []
  rw [List.append_nil] at h1 h2
  rw [h, h2] at h1
  simp only [Option.some.injEq, Prod.mk.injEq, and_true] at h1
  exact h1.symm
theorem allNum_some {s : List UInt8} {n : Nat} (h : allNum s = some n) : numB n = s ∧ n < 9223372036854775808 := by
  unfold allNum at h
  split at h
  · rename_i m hm
    simp only [Option.some.injEq] at h
    subst h
    have := takeNum_some hm
    rw [List.append_nil] at this
    exact ⟨this.1.symm, this.2⟩
  · cases h
theorem readD_some {s : List UInt8} {d : DraftN} (h : readD s = some d) : draftB d = s ∧ GoodD d ∧ IdOk d.ref ∧ d.kind < 9223372036854775808 := by
  unfold readD at h
  split at h
  · rename_i k key val r hs
    split at h
    · rename_i hr
      split at h
      · rename_i n hn
        split at h
        · rename_i hg
          simp only [Option.some.injEq] at h
          subst h
          obtain ⟨h1, h2⟩ := allNum_some hn
          refine ⟨?_, hg, ⟨by rw [byteNs_len, hr], byteNs_lt _⟩, by simp only; omega⟩
          rw [draftB]
          simp only [Int.toNat_natCast, txt_byteNs, h1]
          exact splitB_some hs
        · cases h
      · cases h
    · cases h
  · cases h
end Go.Proofs.Ytenmkfjgjemiiaa
namespace Go.Proofs.Ytenmkfjgjemiiaa
open Go.RowKit
theorem noE_ok : noE.Ok := ⟨zeroI_ok, zeroI_ok⟩
theorem noD_bad : ¬ GoodD noD := fun h => by have := h.1; simp [noD] at this
theorem noE_bad : ¬ GoodE noE := by
  rintro (h | h | h)
  · exact absurd h.1 (by decide)
  · exact absurd h.1 (by decide)
  · exact absurd h.1 (by decide)
theorem numI_some {s : List UInt8} {n : Int} (h : numI s = n) (h0 : 0 ≤ n) : numB n.toNat = s ∧ n < 9223372036854775808 := by
  unfold numI at h
  split at h
  · rename_i m hm
    obtain ⟨h1, h2⟩ := allNum_some hm
    subst h
    exact ⟨by rw [Int.toNat_natCast]; exact h1, by omega⟩
  · omega
theorem listB_ne (l : List (List UInt8)) : listB l ≠ [] := fun h => by
  have h1 := listB_length l
  have h2 := numB_length l.length
  rw [h] at h1
  simp only [List.length_nil] at h1
  omega
theorem readE_some {s : List UInt8} {e : EntN} (h : readE s = some e) : entB e = s ∧ GoodE e ∧ e.Ok := by
  unfold readE at h
  split at h
  · rename_i l hs
    split at h
    · rename_i hg
      simp only [Option.some.injEq] at h
      subst h
      rw [entB_good hg]
      have hb := splitB_some hs
      match l, hg, hb with
      | [], hg, _ => exact absurd hg noE_bad
      | [_], hg, _ => exact absurd hg noE_bad
      | [k, t], hg, hb =>
        simp only [candE] at hg ⊢
        by_cases hk : numI k = 1
        · rw [if_pos hk] at hg ⊢
          obtain ⟨hk1, _⟩ := numI_some hk (by decide)
          cases hd : readD t with
          | none =>
            rw [hd] at hg
            rcases hg with hg | hg | hg
            · exact absurd hg.2.1 noD_bad
            · exact absurd hg.1 (by simp)
            · exact absurd hg.1 (by simp)
          | some d =>
            rw [hd] at hg
            obtain ⟨d1, d2, d3, d4⟩ := readD_some hd
            simp only [Option.getD_some] at hg ⊢
            refine ⟨?_, hg, d3, zeroI_ok⟩
            rw [← hb]
            simp only [partsE, if_true, d1]
            rw [show numB 1 = k from hk1]
        · rw [if_neg hk] at hg
          exact absurd hg noE_bad
      | [k, m, p], hg, hb =>
        simp only [candE] at hg ⊢
        by_cases hk : numI k = 3
        · rw [if_pos hk] at hg ⊢
          obtain ⟨hk1, _⟩ := numI_some hk (by decide)
          have hg' := hg
          rcases hg with hg | hg | hg
          · exact absurd hg.1 (by simp)
          · exact absurd hg.1 (by simp)
          · obtain ⟨hm1, _⟩ := numI_some (s := m) rfl (by have := hg.2.1.1; simp only at this; omega)
            refine ⟨?_, hg', zeroI_ok, zeroI_ok⟩
            rw [← hb]
            simp only [partsE]
            rw [if_neg (by decide), if_neg (by decide), hm1, show numB 3 = k from hk1]
        · rw [if_neg hk] at hg
          exact absurd hg noE_bad
      | [_, _, _, _], hg, _ => exact absurd hg noE_bad
      | [_, _, _, _, _], hg, _ => exact absurd hg noE_bad
      | [_, _, _, _, _, _], hg, _ => exact absurd hg noE_bad
      | [k, f, q, r, m, p, g], hg, hb =>
        simp only [candE] at hg ⊢
        by_cases hk : numI k = 2 ∧ r.length = 32
        · rw [if_pos hk] at hg ⊢
          obtain ⟨hk1, _⟩ := numI_some hk.1 (by decide)
          have hg' := hg
          rcases hg with hg | hg | hg
          · exact absurd hg.1 (by simp)
          · obtain ⟨_, ⟨h1, h2, h3⟩, _, h4, h5, h6, h7⟩ := hg
            simp only at h1 h2 h3 h4 h5 h6 h7
            obtain ⟨hm1, _⟩ := numI_some (s := m) rfl (by omega)
            obtain ⟨hf1, _⟩ := numI_some (s := f) rfl (by omega)
            obtain ⟨hq1, _⟩ := numI_some (s := q) rfl (by omega)
            refine ⟨?_, hg', zeroI_ok, by show (byteNs r).length = 32; rw [byteNs_len, hk.2], byteNs_lt _⟩
            rw [← hb]
            simp only [partsE]
            rw [if_neg (by decide), if_pos trivial, hm1, hf1, hq1, txt_byteNs, show numB 2 = k from hk1]
          · exact absurd hg.1 (by simp)
        · rw [if_neg hk] at hg
          exact absurd hg noE_bad
      | _ :: _ :: _ :: _ :: _ :: _ :: _ :: _ :: _, hg, _ => exact absurd hg noE_bad
    · cases h
  · cases h
theorem entB_le {e : EntN} (hf : e.Fit) : (entB e).length ≤ 8000 := by
  by_cases h : GoodE e
  · rw [entB_good h]
    exact partsE_le h hf
  · rw [entB_bad h]
    decide
end Go.Proofs.Ytenmkfjgjemiiaa
namespace Go.Proofs.Ytenmkfjgjemiiaa
open Go.RowKit
section
variable {P : Program} {ops : Array Oper} {md : Region.Mode}
def left (seen : Array Bool) (n : Nat) : Nat := (List.range n).countP fun i => !seen.getD i false
theorem left_zero {seen : Array Bool} {n : Nat} (h : left seen n = 0) (i : Nat) (hi : i < n) : seen.getD i false = true := by
  have := List.countP_eq_zero.1 h i (List.mem_range.2 hi)
  simpa using this
theorem left_set {seen : Array Bool} {i : Nat} (hs : i < seen.size) (hu : seen.getD i false = false) : ∀ n, i < n → left (seen.setIfInBounds i true) n + 1 = left seen n := by
  intro n
  induction n with
  | zero => intro h; omega
  | succ n ih =>
    intro h
    simp only [left, List.range_succ, List.countP_append, List.countP_cons, List.countP_nil] at ih ⊢
    by_cases e : i = n
    · subst e
      have h1 : (seen.setIfInBounds i true).getD i false = true := by simp [hs]
      have h2 : (List.range i).countP (fun j => !(seen.setIfInBounds i true).getD j false) = (List.range i).countP (fun j => !seen.getD j false) := by
        refine List.countP_congr fun j hj => ?_
        rw [getD_set_ne false (by have := List.mem_range.1 hj; omega)]
      rw [h1, h2, hu]
      simp
    · have h1 : (seen.setIfInBounds i true).getD n false = seen.getD n false := getD_set_ne false e
      rw [h1]
      have := ih (by omega)
      omega
theorem left_least {seen : Array Bool} : ∀ {n : Nat}, left seen n ≠ 0 → ∃ k, k < n ∧ seen.getD k false = false ∧ ∀ j, j < k → seen.getD j false = true := by
  intro n
  induction n with
  | zero => intro h; exact absurd rfl h
  | succ n ih =>
    intro h
    by_cases h0 : left seen n = 0
    · refine ⟨n, by omega, ?_, left_zero h0⟩
      simp only [left, List.range_succ, List.countP_append, List.countP_cons, List.countP_nil] at h h0
      cases hs : seen.getD n false with
      | false => rfl
      | true => exact absurd h0 (by rw [hs] at h; simpa using h)
    · obtain ⟨k, hk, h1, h2⟩ := ih h0
      exact ⟨k, by omega, h1, h2⟩
theorem lexHead_spec {g : Nat} (f : Nat) : ∀ (k : Nat) (seen : Array Bool), seen.size = ops.size → (∀ j, seen.getD j false = decide (j < k)) → k + f ≤ ops.size → Region.lexHead md ops g f k seen = true →
    (∀ j, k ≤ j → j < k + f → ∃ o, ops[j]? = some o ∧ ∀ e ∈ o.after, Region.binds md e = true → e.on < j) ∧ ∃ full : Array Bool, full.size = ops.size ∧ (∀ j, full.getD j false = decide (j < k + f)) ∧ Region.seqB md ops g (k + f) full = true := by
  induction f with
  | zero => intro k seen hz hs _ hB; exact ⟨fun j h1 h2 => by omega, seen, hz, hs, hB⟩
  | succ f ih =>
    intro k seen hz hs hf hB
    simp only [Region.lexHead, Bool.and_eq_true] at hB
    have hkr : k ∈ Region.ready md ops seen := by simpa using hB.1.1
    obtain ⟨_, o, ho, hall⟩ := mem_ready.1 hkr
    obtain ⟨h1, full, h2, h3, h4⟩ := ih (k + 1) (seen.setIfInBounds k true) (by simpa using hz) (fun j => by
      by_cases e : k = j
      · subst e
        have : k < seen.size := by omega
        simp [this]
      · rw [getD_set_ne false e, hs j]
        exact decide_eq_decide.2 (by omega)) (by omega) hB.2
    refine ⟨fun j hj1 hj2 => ?_, full, h2, fun j => by rw [h3 j]; exact decide_eq_decide.2 (by omega), by rw [show k + (f + 1) = k + 1 + f by omega]; exact h4⟩
    by_cases e : j = k
    · subst e
      refine ⟨o, ho, fun x hx hb => ?_⟩
      have := hall x hx hb
      rw [hs] at this
      simpa using this
    · exact h1 j (by omega) (by omega)
theorem wp_region_inv {id : Nat} {Q : Exit → Act → World → Prop} {a : Act} {w : World} {l : List Oper} (n : Nat) (Inv : Array Bool → Act → World → Prop) (hm : P.follows .mixedOrders = true) (hB : Region.lexTailB .any l.toArray n = true)
    (h0 : Inv (Array.replicate l.toArray.size false) a w.drew)
    (hstep : ∀ seen a w i, i < n → i ∈ Region.ready .any l.toArray seen → i < seen.size → Inv seen a w → wpOp P l.toArray Q i (fun a' w' => Inv (seen.setIfInBounds i true) a' w') a w)
    (hend : ∀ seen a w, (∀ i, i < n → seen.getD i false = true) → Inv seen a w → wpList P l.toArray Q (l.drop n) a w) : (Code.region id l.toArray true).wp P Q a w := by
  simp only [Region.lexTailB, Bool.and_eq_true, decide_eq_true_eq] at hB
  obtain ⟨⟨⟨⟨hns, hn⟩, hsink⟩, hchain⟩, hlex⟩ := hB
  have hsz : l.toArray.size = l.length := by simp
  have hd : (l.drop n).length = l.toArray.size - n := by rw [List.length_drop, hsz]
  obtain ⟨hdeps, full, hfz, hfull, hseq⟩ := lexHead_spec (md := .any) (ops := l.toArray) n 0 _ Array.size_replicate (fun j => by rw [getD_replicate_false]; simp) (by omega) hlex
  rw [Nat.zero_add] at hseq
  have key : ∀ r seen a w, HeadInv .any l.toArray n seen → left seen n = r → Inv seen a w → wpAny P .any l.toArray Q (r + (l.toArray.size - n)) seen a w := by
    intro r
    induction r with
    | zero =>
      intro seen a w inv hr hI
      have hall := left_zero hr
      have hsame : seen = full := by
        refine Array.ext (by rw [inv.size, hfz]) fun j h1 h2 => ?_
        have e1 := hfull j
        have e2 : seen.getD j false = decide (j < 0 + n) := by
          by_cases hj : j < n
          · rw [hall j hj]; simp [hj]
          · have := getD_both (inv.tail j (by omega) (by rw [← inv.size]; exact h1))
            rw [this]; simp [hj]
        rw [← e1] at e2
        simpa [h1, h2] using e2
      have := wpAny_of_seq (md := .any) (Q' := Q) (l.drop n) n seen a w (fun j => by simp [List.getElem?_drop]) (by rw [hd, hsame]; exact hseq) (hend seen a w hall hI)
      rw [hd] at this
      rw [Nat.zero_add]
      exact this
    | succ r ih =>
      intro seen a w inv hr hI
      rw [Nat.add_right_comm]
      obtain ⟨k, hk, hku, hkl⟩ := left_least (seen := seen) (n := n) (by omega)
      have hks : k < seen.size := by rw [inv.size]; omega
      have hkr : k ∈ Region.ready .any l.toArray seen := by
        obtain ⟨o, ho, hb⟩ := hdeps k (by omega) (by omega)
        exact mem_ready.2 ⟨getD_in hks hku, o, ho, fun e he hbe => hkl _ (hb e he hbe)⟩
      refine ⟨fun e => (by rw [e] at hkr; cases hkr), fun i hi => ?_⟩
      have hin : i < n := Nat.lt_of_not_le fun h => tail_waits hsink hchain hn inv _ k rfl hk (getD_in hks hku) i h hi
      have his : i < seen.size := by rw [inv.size]; omega
      refine wpOp_mono (fun a' w' hI' => ih _ a' w' (inv.set hi hin) ?_ hI') (hstep seen a w i hin hi his hI)
      have := left_set his (getD_both (mem_ready.1 hi).1) n hin
      omega
  have inv0 : HeadInv .any l.toArray n (Array.replicate l.toArray.size false) :=
    ⟨Array.size_replicate, fun j p _ hs => (by rw [getD_replicate_false] at hs; cases hs), fun t _ ht' => getD_in (by rw [Array.size_replicate]; exact ht') (getD_replicate_false _ _)⟩
  have H := key n _ a w.drew inv0 (by
    have : ∀ m, left (Array.replicate l.toArray.size false) m = m := fun m => by
      unfold left
      rw [List.countP_eq_length.2 (fun i _ => by rw [getD_replicate_false]; rfl), List.length_range]
    exact this n) h0
  rw [show n + (l.toArray.size - n) = l.toArray.size by omega] at H
  exact wp_region_any hm H
end
end Go.Proofs.Ytenmkfjgjemiiaa
namespace Go.Proofs.Ytenmkfjgjemiiaa
open Go.RowKit
section
variable {P : Program}
def putAll : List Oper → (Nat → Value) → Act → Act
  | [], _, a => a
  | o :: l, V, a => putAll l (fun i => V (i + 1)) (a.put o.dst (V 0))
def apartB : List Oper → Bool
  | [] => true
  | o :: l => l.all (fun p => !(o.dst == p.dst)) && apartB l
def upd (V : Nat → Value) (i : Nat) (v : Value) : Nat → Value := fun j => if j = i then v else V j
theorem upd_same (V : Nat → Value) (i : Nat) (v : Value) : upd V i v i = v := by simp [upd]
theorem upd_ne (V : Nat → Value) {i j : Nat} (v : Value) (h : j ≠ i) : upd V i v j = V j := by simp [upd, h]
theorem put_put (a : Act) (d : Option Tmp) (u v : Value) : (a.put d u).put d v = a.put d v := by
  cases d with
  | none => rfl
  | some d => simp [Act.put]
theorem putAll_put (l : List Oper) (o : Oper) (v : Value) (h : l.all (fun p => !(o.dst == p.dst)) = true) : ∀ (V : Nat → Value) (a : Act), putAll l V (a.put o.dst v) = (putAll l V a).put o.dst v := by
  induction l with
  | nil => intro V a; rfl
  | cons p l ih =>
    intro V a
    simp only [List.all_cons, Bool.and_eq_true] at h
    rw [putAll, putAll, Act.put_comm a v (V 0) (fun d hd e => by rw [hd, e] at h; simp at h), ih h.2]
theorem putAll_upd (l : List Oper) (h : apartB l = true) : ∀ (i : Nat) (o : Oper) (v : Value) (V : Nat → Value) (a : Act), l[i]? = some o → putAll l (upd V i v) a = (putAll l V a).put o.dst v := by
  induction l with
  | nil => intro i o v V a ho; simp at ho
  | cons p l ih =>
    intro i o v V a ho
    simp only [apartB, Bool.and_eq_true] at h
    cases i with
    | zero =>
      obtain rfl : p = o := by simpa using ho
      rw [putAll, putAll, ← putAll_put l p v h.1, put_put]
      rfl
    | succ i =>
      rw [putAll, putAll, ← ih h.2 i o v (fun j => V (j + 1)) _ (by simpa using ho)]
      congr 1
      funext j
      simp [upd]
structure FreeStep (P : Program) (ops : Array Oper) (Q : Exit → Act → World → Prop) (F : (Nat → Value) → Act) (Inv : (Nat → Bool) → (Nat → Value) → World → Prop) (o : Oper) (i : Nat) : Prop where
  go : ∀ s V w, (∀ e ∈ o.after, Region.binds .any e = true → s e.on = true) → s i = false → Inv s V w →
    ∀ K : Act → World → Prop, (∀ v w', Inv (fun j => s j || j == i) (upd V i v) w' → K ((F V).put o.dst v) w') →
      if Region.wanted o (yielded ops (F V).tmps) = true then Oper.wp P o (F V) w K Q else K ((F V).put o.dst undef) w
def FreeSteps (P : Program) (ops : Array Oper) (Q : Exit → Act → World → Prop) (F : (Nat → Value) → Act) (Inv : (Nat → Bool) → (Nat → Value) → World → Prop) : List Oper → Nat → Prop
  | [], _ => True
  | o :: l, i => FreeStep P ops Q F Inv o i ∧ FreeSteps P ops Q F Inv l (i + 1)
theorem FreeSteps.nil {ops : Array Oper} {Q : Exit → Act → World → Prop} {F : (Nat → Value) → Act} {Inv : (Nat → Bool) → (Nat → Value) → World → Prop} {i : Nat} : FreeSteps P ops Q F Inv [] i := trivial
theorem FreeSteps.cons {ops : Array Oper} {Q : Exit → Act → World → Prop} {F : (Nat → Value) → Act} {Inv : (Nat → Bool) → (Nat → Value) → World → Prop} {o : Oper} {l : List Oper} {i : Nat} (h : FreeStep P ops Q F Inv o i) (hs : FreeSteps P ops Q F Inv l (i + 1)) : FreeSteps P ops Q F Inv (o :: l) i := ⟨h, hs⟩
theorem FreeStep.fresh {ops : Array Oper} {Q : Exit → Act → World → Prop} {F : (Nat → Value) → Act} {Inv : (Nat → Bool) → (Nat → Value) → World → Prop} {o : Oper} {i : Nat} (hg : o.guard = none)
    (h : ∀ s V w, (∀ e ∈ o.after, Region.binds .any e = true → s e.on = true) → s i = false → Inv s V w → ∀ K : Act → World → Prop, (∀ v w', Inv (fun j => s j || j == i) (upd V i v) w' → K ((F V).put o.dst v) w') → OpWp P o (F V) w K Q) : FreeStep P ops Q F Inv o i := ⟨fun s V w hr hu hI K hK => by
  have hw : Region.wanted o (yielded ops (F V).tmps) = true := by simp [Region.wanted, hg]
  rw [if_pos hw]
  exact (h s V w hr hu hI K hK).out⟩
theorem FreeSteps.get {ops : Array Oper} {Q : Exit → Act → World → Prop} {F : (Nat → Value) → Act} {Inv : (Nat → Bool) → (Nat → Value) → World → Prop} (l : List Oper) : ∀ (i k : Nat) (o : Oper), FreeSteps P ops Q F Inv l k → l[i]? = some o → FreeStep P ops Q F Inv o (k + i) := by
  induction l with
  | nil => intro i k o _ ho; simp at ho
  | cons p l ih =>
    intro i k o h ho
    cases i with
    | zero =>
      obtain rfl : p = o := by simpa using ho
      exact h.1
    | succ i =>
      have := ih i (k + 1) o h.2 (by simpa using ho)
      rwa [show k + 1 + i = k + (i + 1) by omega] at this
theorem wp_region_free {id : Nat} {Q : Exit → Act → World → Prop} {a : Act} {w : World} {l : List Oper} (n : Nat) (Inv : (Nat → Bool) → (Nat → Value) → World → Prop) (V0 : Nat → Value) (hm : P.follows .mixedOrders = true) (hB : Region.lexTailB .any l.toArray n = true) (hd : apartB (l.take n) = true)
    (ha : putAll (l.take n) V0 a = a) (h0 : Inv (fun _ => false) V0 w.drew)
    (hstep : FreeSteps P l.toArray Q (fun V => putAll (l.take n) V a) Inv (l.take n) 0)
    (hend : ∀ s V w, (∀ i, i < n → s i = true) → Inv s V w → wpList P l.toArray Q (l.drop n) (putAll (l.take n) V a) w) : (Code.region id l.toArray true).wp P Q a w := by
  have hn : n < l.length := by
    simp only [Region.lexTailB, Bool.and_eq_true, decide_eq_true_eq] at hB
    simpa using hB.1.1.1.2
  refine wp_region_inv n (fun seen a' w' => ∃ V, a' = putAll (l.take n) V a ∧ Inv (fun j => seen.getD j false) V w') hm hB ⟨V0, ha.symm, ?_⟩ ?_ ?_
  · rw [show (fun j => (Array.replicate l.toArray.size false).getD j false) = fun _ => false from funext fun j => getD_replicate_false _ _]
    exact h0
  · rintro seen a' w' i hi hr hs ⟨V, rfl, hI⟩
    obtain ⟨hu, o, ho, hall⟩ := mem_ready.1 hr
    have ho' : (l.take n)[i]? = some o := by
      rw [List.getElem?_take, if_pos hi]
      simpa using ho
    have hF := FreeSteps.get (l.take n) i 0 o hstep ho'
    rw [Nat.zero_add] at hF
    have e : (fun j => (seen.setIfInBounds i true).getD j false) = fun j => seen.getD j false || j == i := funext fun j => by
      by_cases hj : i = j
      · subst hj; simp [hs]
      · rw [getD_set_ne false hj]
        have : (j == i) = false := by simp; omega
        rw [this, Bool.or_false]
    have hF2 := hF.go _ V w' hall (getD_both hu) hI (fun a'' w'' => ∃ V, a'' = putAll (l.take n) V a ∧ Inv (fun j => (seen.setIfInBounds i true).getD j false) V w'') (fun v w'' h => ⟨upd V i v, (putAll_upd _ hd i o v V a ho').symm, by rw [e]; exact h⟩)
    unfold wpOp
    simp only [ho]
    split
    · rename_i hw
      rw [if_pos hw] at hF2
      exact .inl hF2
    · rename_i hw
      rw [if_neg hw] at hF2
      exact hF2
  · rintro seen a' w' hall ⟨V, rfl, hI⟩
    exact hend _ V w' (fun i hi => hall i hi) hI
theorem op_move {o : Oper} {a : Act} {w : World} {K : Act → World → Prop} {Q : Exit → Act → World → Prop} (x : Operand) (ho : o.op = .move x) (v : Value) (hx : a.eval x = v) (h : K (a.put o.dst v) w) : OpWp P o a w K Q := by
  refine ⟨?_⟩
  unfold Oper.wp execOp
  simp only [ho, hx, Sem.run_pure]
  exact h
theorem op_call {o : Oper} {a : Act} {w : World} {K : Act → World → Prop} {Q : Exit → Act → World → Prop} {f : FuncId} {fn : Func} (hf : P.funcs[f]? = some fn) (hname : (fn.name == "runtime.NumGoroutine") = false) (hb : fn.body.isNone = false)
    {args : Array Operand} {ts : Array TypeId} (ho : o.op = .call { callee := .value (.func f), args := args, argTypes := ts }) (vs : List Value) (hv : args.toList.map a.eval = vs) {C : Ending → World → Prop}
    (hc : Calls P f vs.toArray w C) (h : ∀ e w', C e w' → ∃ v, e = .returned v ∧ K (a.put o.dst v) w') : OpWp P o a w K Q := by
  have hr : (execOp a.eval o).run P w = .ok (.enter f vs.toArray) w := by
    obtain ⟨dst, op, ty, pos, after, guard⟩ := o
    simp only at ho
    subst ho
    rw [execOp_call_go, show args.map a.eval = vs.toArray by rw [← hv, ← Array.toList_map, Array.toArray_toList], Array.append_empty, Array.empty_append]
    have h1 : ¬ fn.name = "runtime.NumGoroutine" := by simpa using hname
    have h2 : ¬ fn.body = none := by intro e; rw [e] at hb; cases hb
    simp [callFunc, Sem.run_bind, hf, h1, h2, go_sem]
  refine ⟨?_⟩
  unfold Oper.wp
  rw [hr, Oper.upon_enter]
  refine hc.mono fun e w' he => ?_
  obtain ⟨v, rfl, hk⟩ := h e w' he
  exact hk
theorem Cells.but {b g : Nat} {t : TypeId} {cs : Array Value} {w w' : World} (h : Cells b t cs w) (hb : But g w w') (hne : b ≠ g) : Cells b t cs w' := (hb.block b h.lt hne).trans h
def Val (s : Nat → Bool) (V : Nat → Value) (i : Nat) (v : Value) : Prop := s i = true → V i = v
theorem Val.none {V : Nat → Value} {i : Nat} {v : Value} : Val (fun _ => false) V i v := fun h => by cases h
theorem seen_ne {s : Nat → Bool} {i j : Nat} (hne : j ≠ i) (h : (s j || j == i) = true) : s j = true := by
  have : (j == i) = false := by simpa using hne
  rwa [this, Bool.or_false] at h
theorem Val.same {s : Nat → Bool} {V : Nat → Value} {i : Nat} {v : Value} : Val (fun j => s j || j == i) (upd V i v) i v := fun _ => upd_same _ _ _
theorem Val.ne {s : Nat → Bool} {V : Nat → Value} {i j : Nat} {v u : Value} (h : Val s V j v) (hne : j ≠ i) : Val (fun j => s j || j == i) (upd V i u) j v := fun hs => by
  rw [upd_ne V u hne]
  exact h (seen_ne hne hs)
def Row (s : Nat → Bool) (V : Nat → Value) (B i n : Nat) (e : TypeId) (k : IntKind) (l : List Nat) (w : World) : Prop := s i = true → ∃ ao c, V i = .slice ao n c ∧ OwnN B e k (.slice ao n c) l w
theorem Row.none {V : Nat → Value} {B i n : Nat} {e : TypeId} {k : IntKind} {l : List Nat} {w : World} : Row (fun _ => false) V B i n e k l w := fun h => by cases h
theorem Row.ne {s : Nat → Bool} {V : Nat → Value} {B i j n : Nat} {t : TypeId} {k : IntKind} {l : List Nat} {w w' : World} {u : Value} (h : Row s V B j n t k l w) (hne : j ≠ i) (hb : Below w.heap.size w w') : Row (fun j => s j || j == i) (upd V i u) B j n t k l w' := fun hs => by
  obtain ⟨ao, c, e, hk⟩ := h (seen_ne hne hs)
  exact ⟨ao, c, by rw [upd_ne V u hne]; exact e, hk.below hb⟩
theorem Row.same {s : Nat → Bool} {V : Nat → Value} {B i n : Nat} {t : TypeId} {k : IntKind} {l : List Nat} {w : World} {ao : Option Addr} {c : Nat} (h : OwnN B t k (.slice ao n c) l w) : Row (fun j => s j || j == i) (upd V i (.slice ao n c)) B i n t k l w :=
  fun _ => ⟨ao, c, upd_same _ _ _, h⟩
end
end Go.Proofs.Ytenmkfjgjemiiaa
namespace Go.Proofs.Ytenmkfjgjemiiaa
open Go.RowKit
theorem conv_row {B n : Nat} {cp : Nat} {ao : Option Addr} {w : World} (l : List Nat) (hn : n = l.length) (h0 : 0 < l.length) (hlt : ∀ x ∈ l, x < 256) (h : OwnN B 5 .u8 (.slice ao n cp) l w) :
    (convert 53 9 (.slice ao n cp)).run Try.prog w = .ok (.string ⟨(txt l).toArray⟩) w := by
  obtain ⟨g, c2, hv, _, _⟩ := h.formB h0
  have hlen : l.length = (txt l).length := (txt_len _).symm
  obtain rfl : ao = some ⟨g, 0, none⟩ := by injection hv
  have hc := World.ownsRow.cells h (g := g) rfl
  rw [hn, hlen]
  refine run_convert_bytes_back _ _ _ 5 ⟨g, 0, none⟩ _ (txt l) Try.underlying53 Try.underlying5 Try.underlying9 ?_
  intro j hj
  refine hc j _ ?_
  have e : nums .u8 l = (txt l).map fun b => Value.int .u8 (b.toNat : Int) := by
    rw [← byteNs_nums, byteNs_txt hlt]
  rw [e, List.getElem?_map, List.getElem?_eq_getElem hj]
  rfl
end Go.Proofs.Ytenmkfjgjemiiaa
namespace Go.Proofs.Ytenmkfjgjemiiaa
open Go.RowKit
theorem Cells.set {g : Nat} {t : TypeId} {cs : Array Value} {w : World} (h : Cells g t cs w) (j : Nat) (u : Value) : Cells g t (cs.setIfInBounds j u) (w.setCell ⟨g, j, none⟩ u) := heap_setCell_at h
theorem Cells.frozen {g : Nat} {t : TypeId} {cs : Array Value} {w : World} (h : Cells g t cs w) (j : Nat) : w.frozen? ⟨g, j, none⟩ = false := by
  have h' : w.heap[g]? = some (.cells cs t (0, 0)) := h
  simp [World.frozen?, h']
end Go.Proofs.Ytenmkfjgjemiiaa
namespace Go.Proofs.Ytenmkfjgjemiiaa
open Go.RowKit
section
variable {P : Program} {o : Oper} {a : Act} {w : World} {K : Act → World → Prop} {Q : Exit → Act → World → Prop}
theorem op_load_cell (ty : TypeId) (x : Operand) (ho : o.op = .load ty x) (p : Addr) (v : Value) (hx : a.eval x = .pointer (some p)) (hc : w.cell? p = some v) (hi : ∀ w, (isAgg ty).run P w = .ok false w) (h : K (a.put o.dst v) w) : OpWp P o a w K Q := by
  refine ⟨?_⟩
  unfold Oper.wp execOp
  simp only [ho, hx, Instr.loadAt, Instr.sureAddr, Sem.run_bind, Sem.run_pure, Result.andThen_ok, run_loadVar_cell w ty p v hc hi]
  exact h
theorem op_indexAt (ty : TypeId) (x y : Operand) (ho : o.op = .indexAddr ty x y) (vx vy : Value) (q : Addr) (hx : a.eval x = vx) (hy : a.eval y = vy) (hr : ∀ w, (Instr.indexAt ty vx vy).run P w = .ok (.pointer (some q)) w)
    (h : K (a.put o.dst (.pointer (some q))) w) : OpWp P o a w K Q := by
  refine ⟨?_⟩
  unfold Oper.wp execOp
  simp only [ho, hx, hy, Sem.run_bind, Sem.run_pure, hr, Result.andThen_ok]
  exact h
theorem op_build (t : TypeId) (parts : Array (Nat × Operand)) (ho : o.op = .build t parts) (vs : List (Nat × Value)) (cells : Array Value) (hv : (parts.map fun (i, x) => (i, a.eval x)) = vs.toArray)
    (hc : ∀ w, (Instr.build t vs.toArray).run P w = .ok (.agg cells) w) (h : K (a.put o.dst (.agg cells)) w) : OpWp P o a w K Q := by
  refine ⟨?_⟩
  unfold Oper.wp execOp
  simp only [ho, hv, Sem.run_bind, Sem.run_pure, hc, Result.andThen_ok]
  exact h
theorem op_conv (t u : TypeId) (x : Operand) (ho : o.op = .convert t u x) (v r : Value) (hx : a.eval x = v) (hC : (convert t u v).run P w = .ok r w) (h : K (a.put o.dst r) w) : OpWp P o a w K Q := by
  refine ⟨?_⟩
  unfold Oper.wp execOp
  simp only [ho, hx, Sem.run_bind, hC, Result.andThen_ok, Sem.run_pure]
  exact h
end
theorem results_cells_tmp {P : Program} {fn : Func} {p u : Tmp} {ty : TypeId} (h : fn.results = #[.cell p ty, .tmp u]) (tmps : Array Value) (w : World) (g : Nat) (cs : Array Value) (t : TypeId) (d : TypeDesc) (v : Value)
    (hp : tmps.getD p undef = .pointer (some ⟨g, 0, none⟩)) (hv : tmps.getD u undef = v) (hg : Cells g t cs w)
    (hu : P.underlying ty = some d) (hd : (match d with | .struct _ | .array _ _ => true | _ => false) = true) (hi : (P.info? ty).map (·.size) = some cs.size) :
    (results fn tmps).run P w = .ok (.tuple #[.agg cs, v]) w := by
  rw [results_cell_tmp h, hp, hv]
  simp [asAddr, Result.andThen, run_loadVar_row w g t ty _ (0, 0) d hg hu hd hi]
end Go.Proofs.Ytenmkfjgjemiiaa
namespace Go.Proofs.Ytenmkfjgjemiiaa
open Go.RowKit
theorem op_build_val {P : Program} {o : Oper} {a : Act} {w : World} {K : Act → World → Prop} {Q : Exit → Act → World → Prop} (t : TypeId) (parts : Array (Nat × Operand)) (ho : o.op = .build t parts)
    (vals : List (Nat × Value)) (cs : Array Value) (hp : (parts.map fun (i, x) => (i, a.eval x)) = vals.toArray) (hb : P.built t vals = some cs) (hk : K (a.put o.dst (.agg cs)) w) : OpWp P o a w K Q := by
  refine ⟨?_⟩
  unfold Oper.wp execOp
  simp only [ho, Sem.run_bind, run_build_val t parts vals cs hp hb, Result.andThen_ok]
  exact hk
def NewC (s : Nat → Bool) (V : Nat → Value) (B i : Nat) (t : TypeId) (cs : Array Value) (w : World) : Prop := s i = true → ∃ g, V i = .pointer (some ⟨g, 0, none⟩) ∧ B ≤ g ∧ Cells g t cs w
theorem NewC.none {V : Nat → Value} {B i : Nat} {t : TypeId} {cs : Array Value} {w : World} : NewC (fun _ => false) V B i t cs w := fun h => by cases h
theorem NewC.ne {s : Nat → Bool} {V : Nat → Value} {B i j : Nat} {t : TypeId} {cs : Array Value} {w w' : World} {u : Value} (h : NewC s V B j t cs w) (hne : j ≠ i) (hb : Below w.heap.size w w') : NewC (fun j => s j || j == i) (upd V i u) B j t cs w' := fun hs => by
  obtain ⟨g, e, hg, hk⟩ := h (seen_ne hne hs)
  exact ⟨g, by rw [upd_ne V u hne]; exact e, hg, hk.below hb⟩
theorem NewC.same {s : Nat → Bool} {V : Nat → Value} {B i : Nat} {t : TypeId} {cs : Array Value} {w : World} (hB : B ≤ w.heap.size) : NewC (fun j => s j || j == i) (upd V i (.pointer (some ⟨w.heap.size, 0, Option.none⟩))) B i t cs (w.alloc (.cells cs t)) :=
  fun _ => ⟨w.heap.size, upd_same _ _ _, hB, heap_alloc_new w _⟩
end Go.Proofs.Ytenmkfjgjemiiaa
namespace Go.Proofs.Ytenmkfjgjemiiaa
open Go.RowKit Go.BigFrame
theorem zeroD_lit : draftV zeroD = #[.int .i64 0, .string ⟨#[]⟩, .string ⟨#[]⟩, .int .u8 0, .int .u8 0, .int .u8 0, .int .u8 0, .int .u8 0, .int .u8 0, .int .u8 0, .int .u8 0, .int .u8 0, .int .u8 0, .int .u8 0, .int .u8 0, .int .u8 0, .int .u8 0, .int .u8 0, .int .u8 0, .int .u8 0, .int .u8 0, .int .u8 0, .int .u8 0, .int .u8 0, .int .u8 0, .int .u8 0, .int .u8 0, .int .u8 0, .int .u8 0, .int .u8 0, .int .u8 0, .int .u8 0, .int .u8 0, .int .u8 0, .int .u8 0] := rfl
theorem draftV_all (d : DraftN) : (draftV d).all (·.oneCell') = true := by
  rw [draftV, List.all_toArray]
  exact List.all_eq_true.2 (draftL_one d)
end Go.Proofs.Ytenmkfjgjemiiaa
namespace Go.Proofs.Ytenmkfjgjemiiaa
open Go.RowKit
def layV (xs : List Value) : Nat → List Value → List Value
  | _, [] => xs
  | o, v :: r => layV (xs.set o v) (o + 1) r
theorem layV_get : ∀ (vs : List Value) (xs : List Value) (o j : Nat), o + vs.length ≤ xs.length → (layV xs o vs)[j]? = if o ≤ j ∧ j < o + vs.length then vs[j - o]? else xs[j]?
  | [], xs, o, j, _ => by rw [layV, if_neg (by simp only [List.length_nil]; omega)]
  | v :: r, xs, o, j, h => by
    simp only [List.length_cons] at h ⊢
    rw [layV, layV_get r (xs.set o v) (o + 1) j (by rw [List.length_set]; omega)]
    by_cases h1 : o + 1 ≤ j ∧ j < o + 1 + r.length
    · rw [if_pos h1, if_pos (by omega), show j - o = (j - (o + 1)) + 1 by omega, List.getElem?_cons_succ]
    · rw [if_neg h1]
      by_cases h2 : j = o
      · subst h2
        rw [if_pos (by omega), Nat.sub_self, List.getElem?_set_self (by omega)]
        rfl
      · rw [if_neg (by omega), List.getElem?_set_ne (by omega)]
theorem But.cells {b : Nat} {w : World} : ∀ (vs : List Value) (o : Nat) (w' : World), But b w w' → But b w (w'.setCells b o vs)
  | [], _, _, h => h
  | v :: r, o, _, h => But.cells r (o + 1) _ (h.setCell o v)
section
variable {P : Program} {o : Oper} {a : Act} {w : World} {K : Act → World → Prop} {Q : Exit → Act → World → Prop}
theorem op_make_full (l c : Operand) (t : TypeId) (ho : o.op = .makeSlice t l c) (base : Nat) (e : TypeId) (z : Value) (size bytes : Nat) (ht : P.underlying t = some (.slice e)) (hinfo : (P.info? e).map (fun i => (i.zero, i.size, i.bytes)) = some (some z, size, bytes))
    (kl kc : IntKind) (n : Nat) (hl : a.eval l = .int kl (n : Int)) (hc : a.eval c = .int kc (n : Int)) (b2 : bytes * n ≤ 281474976710656) (b3 : n ≤ maxLen) (b4 : base ≤ w.heap.size)
    (h : ∀ w', w'.ownsRow base e size (.slice (some ⟨w.heap.size, 0, none⟩) n n) n (madeCells z.cells (n * size)).toList → w.grownBy w' none → K (a.put o.dst (.slice (some ⟨w.heap.size, 0, none⟩) n n)) w') : OpWp P o a w K Q := by
  obtain ⟨i, hi, hz0, hz1, hz2⟩ := info_parts hinfo
  obtain ⟨w', hr, h1, h2⟩ := run_make_full (P := P) w base t e i z size ht hi hz0 hz1 kl kc n (by rw [hz2]; exact b2) b3 b4
  refine ⟨?_⟩
  unfold Oper.wp execOp
  simp only [ho, hl, hc, Sem.run_bind, Sem.run_pure, hr, Result.andThen_ok]
  exact h w' h1 h2
end
end Go.Proofs.Ytenmkfjgjemiiaa
namespace Go.Proofs.Ytenmkfjgjemiiaa
open Go.RowKit Go.BigFrame
theorem built_ent0 : Try.prog.built 30 [] = some (entV noE) := by rw [ent_fill]; rfl
section
variable (a : EntN) (rest : List (Nat × Value))
theorem fill_src (ha : a.Ok) (k : Int) : Instr.fill placeE (entV a) ((2, .int .i64 k) :: rest) = Instr.fill placeE (entV { a with src := k }) rest :=
  fill_ent 2 36 1 _ rest a { a with src := k } ([.int .i64 a.kind] ++ draftL a.d) [.int .i64 a.src] ([.int .i64 a.seq] ++ (nums .u8 a.prev ++ entT a)) [.int .i64 k] rfl (by simp [entL, entT]) (by simp [entL, entT]) rfl rfl rfl (by rw [List.length_append, draftL_len ha.ref.1]; rfl)
theorem fill_seq (ha : a.Ok) (k : Int) : Instr.fill placeE (entV a) ((3, .int .i64 k) :: rest) = Instr.fill placeE (entV { a with seq := k }) rest :=
  fill_ent 3 37 1 _ rest a { a with seq := k } ([.int .i64 a.kind] ++ (draftL a.d ++ [.int .i64 a.src])) [.int .i64 a.seq] (nums .u8 a.prev ++ entT a) [.int .i64 k] rfl (by simp [entL, entT]) (by simp [entL, entT]) rfl rfl rfl (by simp [draftL_len ha.ref.1])
theorem fill_sig (ha : a.Ok) (s : List UInt8) : Instr.fill placeE (entV a) ((7, .string ⟨s.toArray⟩) :: rest) = Instr.fill placeE (entV { a with sig := s }) rest :=
  fill_ent 7 72 1 _ rest a { a with sig := s } ([.int .i64 a.kind] ++ (draftL a.d ++ ([.int .i64 a.src, .int .i64 a.seq] ++ (nums .u8 a.prev ++ [.int .i64 a.mask, .string ⟨a.pay.toArray⟩])))) [.string ⟨a.sig.toArray⟩] [] [.string ⟨s.toArray⟩] rfl (by simp [entL, entT]) (by simp [entL, entT]) rfl rfl rfl (by simp [draftL_len ha.ref.1, nums_len, ha.prev.1])
end
section
variable (a : EntN) (ha : a.Ok)
include ha
omit ha in
end
theorem layV_mid : ∀ (vs xs ys zs : List Value), vs.length = ys.length → layV (xs ++ (ys ++ zs)) xs.length vs = xs ++ (vs ++ zs)
  | [], xs, ys, zs, h => by
    obtain rfl : ys = [] := List.length_eq_zero_iff.1 h.symm
    rfl
  | v :: r, xs, ys, zs, h => by
    cases ys with
    | nil => cases h
    | cons y ys =>
      have ih := layV_mid r (xs ++ [v]) ys zs (by simpa using h)
      rw [List.length_append, List.length_singleton] at ih
      rw [layV, List.cons_append, List.set_append_right _ _ (Nat.le_refl _), Nat.sub_self, List.set_cons_zero]
      simpa using ih
end Go.Proofs.Ytenmkfjgjemiiaa
namespace Go.Proofs.Ytenmkfjgjemiiaa
open Go.RowKit
theorem run_copy_text {P : Program} (w : World) (dT sT ty elem : TypeId) (g o n cap : Nat) (s : List UInt8) (hu : P.underlying dT = some (.slice elem)) (hs : (P.info? elem).map (·.size) = some 1)
    (hc : ∀ j, j < min s.length n → (w.cell? ⟨g, o + j, none⟩).isSome = true) (hf : ∀ j, j < min s.length n → w.frozen? ⟨g, o + j, none⟩ = false) :
    (Builtin.copy_ #[dT, sT] ty #[.slice (some ⟨g, o, none⟩) n cap, .string ⟨s.toArray⟩]).run P w = .ok (goInt (min s.length n)) (w.setCells g o (nums .u8 (byteNs (s.take n)))) := by
  have hlen : (Lib.byteCells (s.take n)).length = min s.length n := by rw [Lib.byteCells_length, List.length_take, Nat.min_comm]
  have hst := run_storeCells_cells (P := P) g o (Lib.byteCells (s.take n)) 0 w (by rw [hlen]; exact hc) (by rw [hlen]; exact hf) (Lib.byteCells_one _)
  have htk : List.take (min s.length n) (List.map (fun b : UInt8 => Value.int IntKind.u8 (b.toNat : Int)) s) = Lib.byteCells (s.take n) := by
    rw [← List.map_take, Lib.byteCells]
    congr 1
    rcases Nat.le_total s.length n with h | h
    · rw [Nat.min_eq_left h, List.take_of_length_le (Nat.le_refl _), List.take_of_length_le h]
    · rw [Nat.min_eq_right h]
  have hsz : (⟨s.toArray⟩ : ByteArray).size = s.length := by simp [ByteArray.size]
  rw [byteCells_nums] at hst htk
  cases hq : P.info? elem with
  | none => simp [hq] at hs
  | some i =>
    have hmin : s.length.min n = min s.length n := rfl
    simp [Builtin.copy_, run_underlying hu, Builtin.lenOf, Builtin.firstCells, sizeOf, typeInfo, hq, hsz, hmin]
    rw [htk, hst]
    simp [Result.andThen]
    congr 1
    omega
theorem wpList_copy_text {P : Program} {w : World} {ops : Array Oper} {rest : List Oper} {o : Oper} {a : Act} {Q : Exit → Act → World → Prop} (hgd : o.guard = none) (d x : Operand) (dT sT : TypeId)
    (ho : o.op = .call { callee := .builtin .copy, args := #[d, x], argTypes := #[dT, sT] }) (elem : TypeId) (hu : P.underlying dT = some (.slice elem)) (hs : (P.info? elem).map (·.size) = some 1)
    (g off n cap : Nat) (s : List UInt8) (hd : a.eval d = .slice (some ⟨g, off, none⟩) n cap) (hx : a.eval x = .string ⟨s.toArray⟩)
    (hc : ∀ j, j < min s.length n → (w.cell? ⟨g, off + j, none⟩).isSome = true) (hf : ∀ j, j < min s.length n → w.frozen? ⟨g, off + j, none⟩ = false)
    (h : wpList P ops Q rest (a.put o.dst (goInt (min s.length n))) (w.setCells g off (nums .u8 (byteNs (s.take n))))) : wpList P ops Q (o :: rest) a w := by
  refine wpList_plain hgd fun K hK => ?_
  have hrun := run_copy_text (P := P) w dT sT o.type elem g off n cap s hu hs hc hf
  unfold Oper.wp
  simp [execOp, ho, resolve, invoke, builtin, hd, hx, hrun, Result.andThen]
  exact hK _ _ h
theorem Cells.lay {g : Nat} {t : TypeId} : ∀ (vs cs : List Value) (o : Nat) (w : World), Cells g t cs.toArray w → Cells g t (layV cs o vs).toArray (w.setCells g o vs)
  | [], _, _, _, h => h
  | v :: r, cs, o, w, h => by
    have h1 := h.set o v
    rw [List.setIfInBounds_toArray] at h1
    exact Cells.lay r (cs.set o v) (o + 1) _ h1
theorem NewC.turn {s : Nat → Bool} {V : Nat → Value} {B i j : Nat} {t : TypeId} {cs : Array Value} {w w' : World} {u : Value} (h : NewC s V B j t cs w) (hne : j ≠ i) (hk : ∀ g, Cells g t cs w → Cells g t cs w') : NewC (fun j => s j || j == i) (upd V i u) B j t cs w' := fun hs => by
  obtain ⟨g, e, hg, hc⟩ := h (seen_ne hne hs)
  exact ⟨g, by rw [upd_ne V u hne]; exact e, hg, hk g hc⟩
end Go.Proofs.Ytenmkfjgjemiiaa
namespace Go.Proofs.Ytenmkfjgjemiiaa
open Go.RowKit Go.BigFrame
def Vals (q : Nat → Bool) (V : Nat → Value) (L : List (Nat × Value)) : Prop := ∀ n v, q n = true → L.lookup n = some v → V n = v
section
variable {q : Nat → Bool} {V : Nat → Value} {L : List (Nat × Value)} {i n : Nat} {v u : Value}
theorem Vals.none : Vals (fun _ => false) V L := fun _ _ h => by cases h
theorem Vals.set (h : Vals q V L) (hl : L.lookup i = some v) : Vals (fun j => q j || j == i) (upd V i v) L := fun n x hn hx => by
  by_cases e : n = i
  · subst e
    rw [upd_same]
    exact Option.some.inj (hl.symm.trans hx)
  · rw [upd_ne V v e]
    exact h n x (seen_ne e hn) hx
theorem Vals.off (h : Vals q V L) (hl : L.lookup i = Option.none) : Vals (fun j => q j || j == i) (upd V i u) L := fun n x hn hx => by
  by_cases e : n = i
  · subst e
    rw [hl] at hx
    cases hx
  · rw [upd_ne V u e]
    exact h n x (seen_ne e hn) hx
theorem Vals.get (h : Vals q V L) (n : Nat) (hq : q n = true) (hl : L.lookup n = some v) : V n = v := h n v hq hl
end
example (q : Nat → Bool) (V : Nat → Value) (a b c : Value) (h : Vals q V [(0, a), (1, b), (2, .bool true), (5, c)]) (hq : ∀ i, i < 6 → q i = true) (K : Value → (Nat → Bool) → (Nat → Value) → Prop) (hK : ∀ v, Vals (fun j => q j || j == 5) (upd V 5 v) [(0, a), (1, b), (2, .bool true), (5, c)] ∧ True → K v q V) : K c q V ∧ V 1 = b := by
  refine ⟨hK _ ⟨h.set rfl, trivial⟩, ?_⟩
  have v1 := h.get 1 (hq 1 (by decide)) rfl
  have v2 := h.get 2 (hq 2 (by decide)) rfl
  have v5 := h.get 5 (hq 5 (by decide)) rfl
  exact v1
example (q : Nat → Bool) (V : Nat → Value) (a b c : Value) (h : Vals q V [(0, a), (1, b), (2, .bool true), (5, c)]) (u : Value) : Vals (fun j => q j || j == 3) (upd V 3 u) [(0, a), (1, b), (2, .bool true), (5, c)] := h.off rfl
end Go.Proofs.Ytenmkfjgjemiiaa
namespace Go.Proofs.Ytenmkfjgjemiiaa
open Go.RowKit Go.BigFrame
theorem split_parts {s : List UInt8} {l : List (List UInt8)} (h : splitB s = some l) : ∀ t ∈ l, t.length ≤ 262144 := fun t ht => by
  have h1 := splitB_some h
  have h2 : s.length ≤ 262144 := by
    unfold splitB at h
    split at h
    · cases h
    · omega
  obtain ⟨q, hq, rfl⟩ := List.getElem_of_mem ht
  have h3 := textsB_parts l q hq
  have h4 := listB_length l
  have h5 := textB_length l[q]
  rw [h1] at h4
  omega
end Go.Proofs.Ytenmkfjgjemiiaa
namespace Go.Proofs.Ytenmkfjgjemiiaa
open Go.RowKit
def Rd (b : Nat) (s : List UInt8) (f : Bool) (w : World) : Prop := w.heap[b]? = some (.cells #[.string ⟨s.toArray⟩, .bool f] 101 (0, 0))
theorem Rd.cell0 {b : Nat} {s : List UInt8} {f : Bool} {w : World} (h : Rd b s f w) : w.cell? ⟨b, 0, none⟩ = some (.string ⟨s.toArray⟩) := by simp [World.cell?, show w.heap[b]? = _ from h]
theorem Rd.cell1 {b : Nat} {s : List UInt8} {f : Bool} {w : World} (h : Rd b s f w) : w.cell? ⟨b, 1, none⟩ = some (.bool f) := by simp [World.cell?, show w.heap[b]? = _ from h]
theorem Rd.free0 {b : Nat} {s : List UInt8} {f : Bool} {w : World} (h : Rd b s f w) : w.frozen? ⟨b, 0, none⟩ = false := by simp [World.frozen?, show w.heap[b]? = _ from h]
theorem Rd.free1 {b : Nat} {s : List UInt8} {f : Bool} {w : World} (h : Rd b s f w) : w.frozen? ⟨b, 1, none⟩ = false := by simp [World.frozen?, show w.heap[b]? = _ from h]
theorem Rd.lt {b : Nat} {s : List UInt8} {f : Bool} {w : World} (h : Rd b s f w) : b < w.heap.size := lt_of_block h
theorem Rd.set0 {b : Nat} {s : List UInt8} {f : Bool} {w : World} (h : Rd b s f w) (s' : List UInt8) : Rd b s' f (w.setCell ⟨b, 0, none⟩ (.string ⟨s'.toArray⟩)) := by
  unfold Rd; rw [heap_setCell_at h]; rfl
theorem Rd.set1 {b : Nat} {s : List UInt8} {f : Bool} {w : World} (h : Rd b s f w) (f' : Bool) : Rd b s f' (w.setCell ⟨b, 1, none⟩ (.bool f')) := by
  unfold Rd; rw [heap_setCell_at h]; rfl
theorem Rd.below {b : Nat} {s : List UInt8} {f : Bool} {w w' : World} (h : Rd b s f w) (k : Below w.heap.size w w') : Rd b s f w' := (k.block b h.lt).trans h
theorem rd_new (s : List UInt8) (f : Bool) (w : World) : Rd w.heap.size s f (w.alloc (.cells #[.string ⟨s.toArray⟩, .bool f] 101 (0, 0))) := by
  show (w.heap.push _)[_]? = _
  simp
theorem fail_any (b : Nat) (s : List UInt8) (f : Bool) (w : World) (h : Rd b s f w) :
    Calls Try.prog 59 #[.pointer (some ⟨b, 0, none⟩)] w fun e w' => e = .returned (.tuple #[]) ∧ Rd b [] true w' ∧ But b w w' := by
  have g0 := h.cell0
  have g1 := h.cell1
  have z0 := h.free0
  have z1 := h.free1
  have H := Lib.hid h
  clear h
  go_enter Try.func59, Try.ntmps59
  go_wp2
  go_end0
  exact ⟨rfl, (H.out.set0 []).set1 true, ((But.refl b w).setCell 0 _).setCell 1 _⟩
theorem open_ok (s : List UInt8) (w : World) (hs : s.length ≤ 262144) :
    Calls Try.prog 46 #[.string ⟨s.toArray⟩] w fun e w' => e = .returned (.pointer (some ⟨w.heap.size, 0, none⟩)) ∧ Rd w.heap.size s false w' ∧ Below w.heap.size w w' := by
  go_enter Try.func46, Try.ntmps46
  go_wp2_with fail
  go_ret
  exact ⟨rfl, rd_new _ _ _, (Below.refl _ _).alloc (Nat.le_refl _) _⟩
theorem open_long (s : List UInt8) (w : World) (hs : 262144 < s.length) (hm : s.length ≤ 9223372036854775807) :
    Calls Try.prog 46 #[.string ⟨s.toArray⟩] w fun e w' => e = .returned (.pointer (some ⟨w.heap.size, 0, none⟩)) ∧ Rd w.heap.size [] true w' ∧ Below w.heap.size w w' := by
  go_enter Try.func46, Try.ntmps46
  go_wp2_with fail
  refine (fail_any _ s false _ (rd_new _ _ _)).mono ?_
  rintro e w' ⟨rfl, h1, h2⟩
  have h3 := But.toBelow ((Below.refl w.heap.size w).alloc (Nat.le_refl _) _) h2 (Nat.le_refl _) (by simp)
  clear h2
  go_wp2_with fail
  go_ret
  exact ⟨rfl, h1, h3⟩
theorem take_few (b : Nat) (s : List UInt8) (f : Bool) (n : Int) (w : World) (h : Rd b s f w) (hn : (s.length : Int) < n) :
    Calls Try.prog 64 #[.pointer (some ⟨b, 0, none⟩), .int .i64 n] w fun e w' => e = .returned (.string ⟨#[]⟩) ∧ Rd b [] true w' ∧ But b w w' := by
  have g0 := h.cell0
  have H := Lib.hid h
  clear h
  go_enter Try.func64, Try.ntmps64
  go_wp2_with (go_at_call 59; refine (fail_any _ s f _ (by exact H.out)).mono ?_; rintro e w' ⟨rfl, h1, h2⟩)
  go_ret
  exact ⟨rfl, by assumption, by assumption⟩
theorem take_some (b : Nat) (s : List UInt8) (f : Bool) (n : Nat) (w : World) (h : Rd b s f w) (hn : n ≤ s.length) :
    Calls Try.prog 64 #[.pointer (some ⟨b, 0, none⟩), .int .i64 n] w fun e w' => e = .returned (.string ⟨(s.take n).toArray⟩) ∧ Rd b (s.drop n) f w' ∧ But b w w' := by
  have g0 := h.cell0
  have z0 := h.free0
  have H := Lib.hid h
  clear h
  go_enter Try.func64, Try.ntmps64
  go_wp2_with fail
  go_ret
  rw [extract_head, extract_tail]
  exact ⟨rfl, H.out.set0 _, (But.refl b w).setCell 0 _⟩
end Go.Proofs.Ytenmkfjgjemiiaa
namespace Go.Proofs.Ytenmkfjgjemiiaa
open Go.RowKit
theorem head_byte (k : UInt8) : wrap64 ((({ data := #[k] } : ByteArray)[0]'(Nat.zero_lt_one)).toNat : Int) = (k.toNat : Int) := by
  have e : ({ data := #[k] } : ByteArray)[0]'(Nat.zero_lt_one) = k := rfl
  have := k.toNat_lt
  rw [e]
  unfold wrap64
  omega
theorem num_zero (w : World) : Calls Try.prog 29 #[.int .i64 0] w fun e w' => e = .returned (.string ⟨#[0]⟩) ∧ Below w.heap.size w w' := by
  have h := num_any 0 w (by decide)
  have e : numB 0 = [0] := by simp [numB, dig_zero]
  rw [e] at h
  exact h
theorem cat_toList (k : UInt8) (l : List UInt8) : (({ data := #[k] } : ByteArray) ++ { data := l.toArray }).toList = k :: l := by
  rw [ByteArray.toList_eq, ByteArray.data_append]
  simp
theorem rnum_empty (b : Nat) (f : Bool) (w : World) (h : Rd b [] f w) :
    Calls Try.prog 60 #[.pointer (some ⟨b, 0, none⟩)] w fun e w' => e = .returned (.int .i64 0) ∧ Rd b [] true w' ∧ But b w w' := by
  go_enter Try.func60, Try.ntmps60
  go_wp2_with fail
  refine (take_few b [] f 1 _ h (by decide)).mono ?_
  rintro e w1 ⟨rfl, h1, hb1⟩
  have g1 := h1.cell1
  have H1 := Lib.hid h1
  have HB := Lib.hid hb1
  clear h1 hb1 h
  go_wp2_with fail
  go_ret
  exact ⟨rfl, H1.out, HB.out⟩
theorem rnum_few (b : Nat) (k : UInt8) (t : List UInt8) (w : World) (h : Rd b (k :: t) false w) (hk : t.length < k.toNat) :
    Calls Try.prog 60 #[.pointer (some ⟨b, 0, none⟩)] w fun e w' => e = .returned (.int .i64 0) ∧ Rd b [] true w' ∧ But b w w' := by
  go_enter Try.func60, Try.ntmps60
  go_wp2_with fail
  refine (take_some b (k :: t) false 1 _ h (by simp)).mono ?_
  rintro e w1 ⟨rfl, h1, hb1⟩
  have g1 := h1.cell1
  have H1 := Lib.hid h1
  have HB := Lib.hid hb1
  clear h1 hb1 h
  go_wp2_with fail
  rw [show wrap64 ((({ data := #[k] } : ByteArray)[0]'(Nat.zero_lt_one)).toNat : Int) = (k.toNat : Int) from head_byte k]
  refine (take_few b _ false k.toNat _ H1.out (by simp; omega)).mono ?_
  rintro e w2 ⟨rfl, h2, hb2⟩
  have H2 := Lib.hid h2
  have HB2 := Lib.hid (HB.out.trans hb2)
  clear h2 hb2 H1 HB g1
  go_wp2_with fail
  refine wp_loop_rounds 1 ?_
  rw [rounds_succ]
  go_wp2_with fail
  refine (num_zero _).mono ?_
  rintro e w3 ⟨rfl, hb3⟩
  have H3 := Lib.hid (H2.out.below hb3)
  have HB3 := Lib.hid (HB2.out.below hb3)
  clear hb3 H2 HB2
  have htest : ([(0 : UInt8)] == (({ data := #[k] } : ByteArray) ++ { data := #[] }).toList) = false := by
    rw [cat_toList k []]
    have : k ≠ 0 := fun e => by subst e; exact Nat.not_lt_zero _ hk
    simpa using fun e => this e.symm
  clear hk
  go_wp2_with fail
  refine (fail_any b [] true _ H3.out).mono ?_
  rintro e w4 ⟨rfl, h4, hb4⟩
  have H4 := Lib.hid h4
  have HB4 := Lib.hid (HB3.out.trans hb4)
  clear h4 hb4 H3 HB3
  go_wp2_with fail
  go_ret
  exact ⟨rfl, H4.out, HB4.out⟩
def Acc (l : List UInt8) (m : Int) : Prop := -9223372036854775808 ≤ m ∧ m ≤ 9223372036854775807 ∧ (val l < 9223372036854775808 → m = val l)
theorem i64_or_join (a d : Nat) (ha : a % 256 = 0) (hd : d < 256) (h : a + d < 9223372036854775808) : bits .or .i64 (a : Int) (d : Int) = ((a + d : Nat) : Int) := by
  have e : a ||| d = a + d := nat_join 8 a d ha hd
  have ea : (BitVec.ofInt 64 (a : Int)).toNat = a := ofInt_u64 a (by omega)
  have ed : (BitVec.ofInt 64 (d : Int)).toNat = d := ofInt_u64 d (by omega)
  show IntKind.i64.wrap ((BitVec.ofInt 64 (a : Int) ||| BitVec.ofInt 64 (d : Int)).toNat : Int) = _
  rw [BitVec.toNat_or, ea, ed, e, IntKind.wrap_i64]
  omega
theorem acc_step (l : List UInt8) (m : Int) (q : Nat) (hq : q < l.length) (h : Acc (l.take q) m) (hx : q < (⟨l.toArray⟩ : ByteArray).size) :
    Acc (l.take (q + 1)) (bits .or .i64 (wrap64 (m * 256)) (wrap64 ((⟨l.toArray⟩ : ByteArray)[q].toNat : Int))) := by
  have eb : (⟨l.toArray⟩ : ByteArray)[q] = l[q] := by simp [ByteArray.getElem_eq_getElem_data]
  have hd := l[q].toNat_lt
  rw [eb]
  have et : l.take (q + 1) = l.take q ++ [l[q]] := by rw [List.take_succ_eq_append_getElem hq]
  rw [et]
  have hw : (Lit.int .i64 (bits .or .i64 (wrap64 (m * 256)) (wrap64 (l[q].toNat : Int)))).wf = true := wf_bits _ _ _ _
  obtain ⟨w1, w2⟩ := bounds_i64 hw
  refine ⟨w1, w2, fun hv => ?_⟩
  rw [val_snoc] at hv ⊢
  have hm := h.2.2 (by omega)
  subst hm
  have e1 : wrap64 ((val (l.take q) : Int) * 256) = ((val (l.take q) * 256 : Nat) : Int) := by
    unfold wrap64; omega
  have e2 : wrap64 (l[q].toNat : Int) = (l[q].toNat : Int) := by unfold wrap64; omega
  rw [e1, e2, i64_or_join _ _ (by omega) (by omega) hv]
theorem rnum_digits (b : Nat) (k : UInt8) (t : List UInt8) (w : World) (h : Rd b (k :: t) false w) (hk : k.toNat ≤ t.length) :
    Calls Try.prog 60 #[.pointer (some ⟨b, 0, none⟩)] w fun e w' => ∃ m, Acc (t.take k.toNat) m ∧
      if numB m.toNat = k :: t.take k.toNat then e = .returned (.int .i64 m) ∧ Rd b (t.drop k.toNat) false w' ∧ But b w w' else e = .returned (.int .i64 0) ∧ Rd b [] true w' ∧ But b w w' := by
  go_enter Try.func60, Try.ntmps60
  go_wp2_with fail
  refine (take_some b (k :: t) false 1 _ h (by simp)).mono ?_
  rintro e w1 ⟨rfl, h1, hb1⟩
  have g1 := h1.cell1
  have H1 := Lib.hid h1
  have HB := Lib.hid hb1
  clear h1 hb1 h
  go_wp2_with fail
  rw [show wrap64 ((({ data := #[k] } : ByteArray)[0]'(Nat.zero_lt_one)).toNat : Int) = (k.toNat : Int) from head_byte k]
  refine (take_some b _ false k.toNat _ H1.out (by simp; omega)).mono ?_
  rintro e w2 ⟨rfl, h2, hb2⟩
  have H2 := Lib.hid h2
  have HB2 := Lib.hid (HB.out.trans hb2)
  clear h2 hb2 H1 HB g1
  simp only [List.drop_one, List.tail_cons] at H2 ⊢
  have hlen : (t.take k.toNat).length ≤ 255 := by have := k.toNat_lt; simp; omega
  generalize hd : t.take k.toNat = ds at hlen ⊢
  have HD := Lib.hid hd
  clear hd hk
  go_wp2_with fail
  go_loop [5, 22] (fun n i => ∃ (q : Nat) (m : Int), q ≤ ds.length ∧ i = .int .i64 q ∧ n = .int .i64 m ∧ Acc (ds.take q) m) (fun _ i => ds.length - (intOf i).toNat)
  case atStart => exact ⟨0, 0, Nat.zero_le _, rfl, rfl, by decide, by decide, fun _ => rfl⟩
  case round =>
    obtain ⟨q, m, hq, rfl, rfl, hacc⟩ := hrel
    have HA := Lib.hid hacc
    have hlo := hacc.1
    have hhi := hacc.2.1
    clear hacc
    by_cases hlt : q < ds.length
    · go_wp2_with fail
      refine ⟨⟨q + 1, _, by omega, by go_num, rfl, acc_step ds m q hlt HA.out _⟩, by simp [intOf]; omega⟩
    · obtain rfl : q = ds.length := by omega
      go_wp2_with fail
      refine (num_int m _ hlo hhi).mono ?_
      rintro e w3 ⟨rfl, hb3⟩
      have H3 := Lib.hid (H2.out.below hb3)
      have HB3 := Lib.hid (HB2.out.below hb3)
      have HA2 := Lib.hid (show Acc ds m by simpa using HA.out)
      clear hb3 H2 HB2 HA
      by_cases heq : numB m.toNat = k :: ds
      · have htest : (numB m.toNat == (({ data := #[k] } : ByteArray) ++ { data := ds.toArray }).toList) = true := by rw [cat_toList k ds, heq]; simp
        have HE := Lib.hid heq
        clear heq
        go_wp2_with fail
        go_ret
        rw [HD.out]
        refine ⟨m, HA2.out, ?_⟩
        rw [if_pos HE.out]
        exact ⟨rfl, H3.out, HB3.out⟩
      · have htest : (numB m.toNat == (({ data := #[k] } : ByteArray) ++ { data := ds.toArray }).toList) = false := by rw [cat_toList k ds]; simpa using heq
        have HE := Lib.hid heq
        clear heq
        go_wp2_with fail
        refine (fail_any b _ false _ H3.out).mono ?_
        rintro e w4 ⟨rfl, h4, hb4⟩
        have H4 := Lib.hid h4
        have HB4 := Lib.hid (HB3.out.trans hb4)
        clear h4 hb4 H3 HB3
        go_wp2_with fail
        go_ret
        rw [HD.out]
        refine ⟨m, HA2.out, ?_⟩
        rw [if_neg HE.out]
        exact ⟨rfl, H4.out, HB4.out⟩
def rdNum (s : List UInt8) : Nat × List UInt8 × Bool := match takeNum s with | some (n, r) => (n, r, false) | none => (0, [], true)
theorem rnum_any (b : Nat) (s : List UInt8) (f : Bool) (w : World) (h : Rd b s f w) (hf : f = true → s = []) :
    Calls Try.prog 60 #[.pointer (some ⟨b, 0, none⟩)] w fun e w' => e = .returned (.int .i64 (rdNum s).1) ∧ Rd b (rdNum s).2.1 (rdNum s).2.2 w' ∧ But b w w' := by
  cases s with
  | nil => exact rnum_empty b f w h
  | cons k t =>
    have f0 : f = false := by cases f with | false => rfl | true => cases hf rfl
    subst f0
    by_cases hk : k.toNat ≤ t.length
    · refine (rnum_digits b k t w h hk).mono ?_
      rintro e w' ⟨m, hacc, hpost⟩
      by_cases hv : val (t.take k.toNat) < 9223372036854775808
      · have hm := hacc.2.2 hv
        have hmn : m.toNat = val (t.take k.toNat) := by rw [hm]; rfl
        rw [hmn] at hpost
        by_cases heq : numB (val (t.take k.toNat)) = k :: t.take k.toNat
        · rw [if_pos heq] at hpost
          simp only [rdNum, takeNum, hk, hv, heq, and_self, if_true]
          rw [hm] at hpost
          exact hpost
        · rw [if_neg heq] at hpost
          simp only [rdNum, takeNum, hk, hv, heq, and_false, if_false]
          exact hpost
      · have hne : ¬ numB m.toNat = k :: t.take k.toNat := by
          intro he
          have h2 : dig m.toNat = t.take k.toNat := by simp only [numB, List.cons.injEq] at he; exact he.2
          have := hacc.2.1
          rw [← h2, val_dig] at hv
          omega
        rw [if_neg hne] at hpost
        simp only [rdNum, takeNum, hv, false_and, and_false, if_false]
        exact hpost
    · refine (rnum_few b k t w h (by omega)).mono ?_
      simp only [rdNum, takeNum, hk, false_and, if_false]
      exact fun e w' h => h
end Go.Proofs.Ytenmkfjgjemiiaa
namespace Go.Proofs.Ytenmkfjgjemiiaa
open Go.RowKit Go.BigFrame
theorem readD_at {s : List UInt8} {k key val r : List UInt8} {n : Nat} (hs : splitB s = some [k, key, val, r]) (hr : r.length = 32) (hk : allNum k = some n) : readD s = if GoodD ⟨n, key, val, byteNs r⟩ then some ⟨n, key, val, byteNs r⟩ else none := by
  unfold readD
  rw [hs]
  simp only [hk, if_pos hr]
theorem strs4 {ao : Option Addr} {a b c d : List UInt8} {w : World} (h : StrsAt ao [a, b, c, d] w) : ∃ g o, ao = some ⟨g, o, none⟩ ∧ g < w.heap.size ∧ w.cell? ⟨g, o, none⟩ = some (.string ⟨a.toArray⟩) ∧ w.cell? ⟨g, o + 1, none⟩ = some (.string ⟨b.toArray⟩) ∧ w.cell? ⟨g, o + 2, none⟩ = some (.string ⟨c.toArray⟩) ∧ w.cell? ⟨g, o + 3, none⟩ = some (.string ⟨d.toArray⟩) := by
  rcases h with h | ⟨g, o, rfl, hg, hc⟩
  · cases h
  · exact ⟨g, o, rfl, hg, hc 0 (by simp), hc 1 (by simp), hc 2 (by simp), hc 3 (by simp)⟩
end Go.Proofs.Ytenmkfjgjemiiaa
namespace Go.Proofs.Ytenmkfjgjemiiaa
open Go.RowKit
def openN (k : List UInt8) : Nat := (rdNum k).1
theorem openN_lt (k : List UInt8) : openN k < 9223372036854775808 := by
  unfold openN rdNum
  cases h : takeNum k with
  | none => decide
  | some p => obtain ⟨n, r⟩ := p; exact takeNum_lt h
theorem openN_all {k : List UInt8} {n : Nat} (h : allNum k = some n) : openN k = n := by
  unfold allNum at h
  split at h
  · rename_i m hm
    simp only [Option.some.injEq] at h
    rw [openN, rdNum, hm, ← h]
  · cases h
theorem all_openN {k : List UInt8} (h : numB (openN k) = k) : allNum k = some (openN k) := by
  have := allNum_numB (openN_lt k)
  rwa [h] at this
def refP (r : List UInt8) : List Nat := byteNs (r.take 32) ++ (List.replicate 32 0).drop r.length
theorem refP_ok (r : List UInt8) : IdOk (refP r) := by
  refine ⟨?_, fun x hx => ?_⟩
  · rw [refP, List.length_append, byteNs_len, List.length_take, List.length_drop, List.length_replicate]
    omega
  · rcases List.mem_append.1 hx with hx | hx
    · exact byteNs_lt _ x hx
    · rw [(List.mem_replicate.1 (List.mem_of_mem_drop hx)).2]
      decide
theorem refP_full {r : List UInt8} (h : r.length = 32) : refP r = byteNs r := by
  rw [refP, List.take_of_length_le (by omega), List.drop_of_length_le (by rw [List.length_replicate]; omega), List.append_nil]
def devD (k key val r : List UInt8) : DraftN := ⟨openN k, key, val, refP r⟩
theorem readD_dev {s k key val r : List UInt8} (hs : splitB s = some [k, key, val, r]) :
    readD s = if GoodD (devD k key val r) ∧ draftB (devD k key val r) = s then some (devD k key val r) else none := by
  have hp := split_parts hs
  by_cases h : GoodD (devD k key val r) ∧ draftB (devD k key val r) = s
  · rw [if_pos h]
    have h1 := splitB_some hs
    have h2 : listB [numB (openN k), key, val, txt (refP r)] = listB [k, key, val, r] := by
      rw [h1]
      exact h.2
    have l1 := hp k (by simp)
    have l2 := hp key (by simp)
    have l3 := hp val (by simp)
    have l4 := hp r (by simp)
    have l5 := numB_len9 (openN_lt k)
    have l6 := (refP_ok r).1
    have h3 := listB_inj (by simp) (by simp) (fun t ht => by simp only [List.mem_cons, List.not_mem_nil, or_false] at ht; rcases ht with rfl | rfl | rfl | rfl <;> first | omega | (rw [txt_len]; omega)) (fun t ht => by simp only [List.mem_cons, List.not_mem_nil, or_false] at ht; rcases ht with rfl | rfl | rfl | rfl <;> omega) h2
    simp only [List.cons.injEq, and_true, true_and] at h3
    have hr : r.length = 32 := by rw [← h3.2, txt_len, l6]
    have e : (⟨(openN k : Int), key, val, byteNs r⟩ : DraftN) = devD k key val r := by rw [devD, refP_full hr]
    rw [readD_at hs hr (all_openN h3.1), e, if_pos h.1]
  · rw [if_neg h]
    cases hd : readD s with
    | none => rfl
    | some d =>
      exfalso
      have h1 := readD_some hd
      have e : d = devD k key val r := by
        unfold readD at hd
        rw [hs] at hd
        simp only at hd
        split at hd
        · rename_i hr
          split at hd
          · rename_i n hn
            split at hd
            · simp only [Option.some.injEq] at hd
              rw [← hd, devD, openN_all hn, refP_full hr]
            · cases hd
          · cases hd
        · cases hd
      rw [e] at h1
      exact h ⟨h1.2.1, h1.1⟩
end Go.Proofs.Ytenmkfjgjemiiaa
namespace Go.Proofs.Ytenmkfjgjemiiaa
open Go.RowKit
def devC : List (List UInt8) → EntN
  | [k, t] => if openN k = 1 then ⟨1, (readD t).getD noD, 0, 0, zeroI, 0, [], []⟩ else noE
  | [k, m, p] => if openN k = 3 then ⟨3, noD, 0, 0, zeroI, openN m, p, []⟩ else noE
  | [k, f, q, r, m, p, g] => if openN k = 2 then ⟨2, noD, openN f, openN q, refP r, openN m, p, g⟩ else noE
  | _ => noE
theorem numI_open {k : List UInt8} {n : Int} (h : numI k = n) (h0 : 0 ≤ n) : (openN k : Int) = n := by
  unfold numI at h
  split at h
  · rename_i m hm
    rw [openN_all hm, h]
  · omega
theorem devC_fit (l : List (List UInt8)) : (devC l).Fit := by
  have z : noE.Fit := ⟨noE_ok, by decide⟩
  have hd : ∀ t, IdOk ((readD t).getD noD).ref := fun t => by
    cases h : readD t with
    | none => exact zeroI_ok
    | some d => exact (readD_some h).2.2.1
  match l with
  | [] => exact z
  | [_] => exact z
  | [k, t] => simp only [devC]; split; exact ⟨⟨hd t, zeroI_ok⟩, z.seq⟩; exact z
  | [k, m, p] => simp only [devC]; split; exact ⟨⟨zeroI_ok, zeroI_ok⟩, z.seq⟩; exact z
  | [_, _, _, _] => exact z
  | [_, _, _, _, _] => exact z
  | [_, _, _, _, _, _] => exact z
  | [k, f, q, r, m, p, g] =>
    simp only [devC]
    split
    · exact ⟨⟨zeroI_ok, refP_ok r⟩, by have := openN_lt q; simp only; omega⟩
    · exact z
  | _ :: _ :: _ :: _ :: _ :: _ :: _ :: _ :: _ => exact z
theorem candE_dev {l : List (List UInt8)} (h : GoodE (candE l)) : candE l = devC l := by
  match l, h with
  | [], h => exact absurd h noE_bad
  | [_], h => exact absurd h noE_bad
  | [k, t], h =>
    simp only [candE, devC] at h ⊢
    by_cases hk : numI k = 1
    · rw [if_pos hk, if_pos (by have := numI_open hk (by decide); omega)]
    · rw [if_neg hk] at h
      exact absurd h noE_bad
  | [k, m, p], h =>
    simp only [candE, devC] at h ⊢
    by_cases hk : numI k = 3
    · rw [if_pos hk] at h
      rw [if_pos hk, if_pos (by have := numI_open hk (by decide); omega)]
      have hm : 0 ≤ numI m := by
        rcases h with h | h | h
        · exact absurd h.1 (by simp)
        · exact absurd h.1 (by simp)
        · have := h.2.1.1
          simp only at this
          omega
      rw [numI_open rfl hm]
    · rw [if_neg hk] at h
      exact absurd h noE_bad
  | [_, _, _, _], h => exact absurd h noE_bad
  | [_, _, _, _, _], h => exact absurd h noE_bad
  | [_, _, _, _, _, _], h => exact absurd h noE_bad
  | [k, f, q, r, m, p, g], h =>
    simp only [candE, devC] at h ⊢
    by_cases hk : numI k = 2 ∧ r.length = 32
    · rw [if_pos hk] at h
      rw [if_pos hk, if_pos (by have := numI_open hk.1 (by decide); omega)]
      rcases h with h | h | h
      · exact absurd h.1 (by simp)
      · obtain ⟨_, ⟨h1, _, _⟩, _, h4, _, h6, _⟩ := h
        simp only at h1 h4 h6
        rw [numI_open (k := f) rfl h4, numI_open (k := q) rfl (by omega), numI_open (k := m) rfl (by omega), refP_full hk.2]
      · exact absurd h.1 (by simp)
    · rw [if_neg hk] at h
      exact absurd h noE_bad
  | _ :: _ :: _ :: _ :: _ :: _ :: _ :: _ :: _, h => exact absurd h noE_bad
theorem readE_dev {s : List UInt8} {l : List (List UInt8)} (hs : splitB s = some l) : readE s = if entB (devC l) = s then some (devC l) else none := by
  by_cases h : entB (devC l) = s
  · rw [if_pos h]
    have h1 := readE_entB (devC_fit l)
    rw [h] at h1
    rw [h1, if_pos]
    refine Classical.byContradiction fun hb => ?_
    rw [entB_bad hb] at h
    have h2 := splitB_some hs
    rw [← h] at h2
    exact listB_ne _ h2
  · rw [if_neg h]
    cases hd : readE s with
    | none => rfl
    | some e =>
      exfalso
      have h1 := (readE_some hd).1
      unfold readE at hd
      rw [hs] at hd
      simp only at hd
      split at hd
      · rename_i hg
        simp only [Option.some.injEq] at hd
        rw [← hd, candE_dev hg] at h1
        exact h h1
      · cases hd
theorem readE_none {s : List UInt8} (hs : splitB s = none) : readE s = none := by rw [readE, hs]
theorem readE_split_nil {s : List UInt8} (hs : splitB s = some []) : readE s = none := by
  rw [readE_dev hs, if_neg]
  rw [show devC [] = noE from rfl, entB_bad noE_bad]
  intro h
  have h2 := splitB_some hs
  rw [← h] at h2
  exact listB_ne _ h2
end Go.Proofs.Ytenmkfjgjemiiaa
namespace Go.Proofs.Ytenmkfjgjemiiaa
open Go.RowKit
def NewR (s : Nat → Bool) (V : Nat → Value) (B i j : Nat) (r : List UInt8) (w : World) : Prop := s i = true → s j = false → ∃ g, V i = .pointer (some ⟨g, 0, none⟩) ∧ B ≤ g ∧ Rd g r false w
theorem NewR.none {V : Nat → Value} {B i j : Nat} {r : List UInt8} {w : World} : NewR (fun _ => false) V B i j r w := fun h => by cases h
theorem not_or_eq {s : Nat → Bool} {j k : Nat} (h : (s j || j == k) = false) : s j = false := by
  cases hs : s j with
  | false => rfl
  | true => rw [hs] at h; cases h
theorem NewR.turn {s : Nat → Bool} {V : Nat → Value} {B i j k : Nat} {r : List UInt8} {w w' : World} {u : Value} (h : NewR s V B i j r w) (hne : i ≠ k) (hk : s i = true → s j = false → ∀ g, Rd g r false w → Rd g r false w') : NewR (fun n => s n || n == k) (upd V k u) B i j r w' := fun hs hj => by
  obtain ⟨g, e, hg, hr⟩ := h (seen_ne hne hs) (not_or_eq hj)
  exact ⟨g, by rw [upd_ne V u hne]; exact e, hg, hk (seen_ne hne hs) (not_or_eq hj) g hr⟩
theorem NewR.ne {s : Nat → Bool} {V : Nat → Value} {B i j k : Nat} {r : List UInt8} {w w' : World} {u : Value} (h : NewR s V B i j r w) (hne : i ≠ k) (hb : Below w.heap.size w w') : NewR (fun n => s n || n == k) (upd V k u) B i j r w' := h.turn hne fun _ _ _ hr => hr.below hb
theorem NewR.same {s : Nat → Bool} {V : Nat → Value} {B i j g : Nat} {r : List UInt8} {w' : World} (hB : B ≤ g) (hr : Rd g r false w') : NewR (fun n => s n || n == i) (upd V i (.pointer (some ⟨g, 0, Option.none⟩))) B i j r w' :=
  fun _ _ => ⟨g, upd_same _ _ _, hB, hr⟩
theorem NewR.used {s : Nat → Bool} {V : Nat → Value} {B i j : Nat} {r : List UInt8} {w' : World} : NewR (fun n => s n || n == j) V B i j r w' := fun _ h => by simp at h
theorem Rd.notCells {b g : Nat} {s : List UInt8} {f : Bool} {t : TypeId} {cs : Array Value} {w : World} (h : Rd b s f w) (hc : Cells g t cs w) (hne : t ≠ 101) : g ≠ b := by
  rintro rfl
  have h1 : w.heap[g]? = _ := h
  have h2 : w.heap[g]? = _ := hc
  rw [h1] at h2
  simp only [Option.some.injEq, Obj.cells.injEq] at h2
  exact hne h2.2.1.symm
end Go.Proofs.Ytenmkfjgjemiiaa
namespace Go.Proofs.Ytenmkfjgjemiiaa
open Go.RowKit
theorem end_failed (b : Nat) (s : List UInt8) (w : World) (h : Rd b s true w) :
    Calls Try.prog 48 #[.pointer (some ⟨b, 0, none⟩)] w fun e w' => e = .returned (.int .i64 4) ∧ w' = w := by
  have g1 := h.cell1
  clear h
  go_enter Try.func48, Try.ntmps48
  go_wp2_with fail
  go_ret
  exact ⟨rfl, rfl⟩
theorem end_rest (b : Nat) (s : List UInt8) (w : World) (h : Rd b s false w) (hs : s ≠ []) :
    Calls Try.prog 48 #[.pointer (some ⟨b, 0, none⟩)] w fun e w' => e = .returned (.int .i64 4) ∧ w' = w := by
  have g0 := h.cell0
  have g1 := h.cell1
  have hne : (!s.isEmpty) = true := by cases s <;> simp_all
  clear h hs
  go_enter Try.func48, Try.ntmps48
  go_wp2_with fail
  go_ret
  exact ⟨rfl, rfl⟩
theorem end_ok (b : Nat) (w : World) (h : Rd b [] false w) :
    Calls Try.prog 48 #[.pointer (some ⟨b, 0, none⟩)] w fun e w' => e = .returned (.int .i64 0) ∧ w' = w := by
  have g0 := h.cell0
  have g1 := h.cell1
  clear h
  go_enter Try.func48, Try.ntmps48
  go_wp2_with fail
  go_ret
  exact ⟨rfl, rfl⟩
def endCode (s : List UInt8) (f : Bool) : Int := if f then 4 else if s = [] then 0 else 4
theorem end_any (b : Nat) (s : List UInt8) (f : Bool) (w : World) (h : Rd b s f w) :
    Calls Try.prog 48 #[.pointer (some ⟨b, 0, none⟩)] w fun e w' => e = .returned (.int .i64 (endCode s f)) ∧ w = w' := by
  unfold endCode
  cases f with
  | true => exact (end_failed b s w h).mono fun e w' ⟨he, hw⟩ => ⟨he, hw.symm⟩
  | false =>
    by_cases hs : s = []
    · subst hs; exact (end_ok b w h).mono fun e w' ⟨he, hw⟩ => ⟨he, hw.symm⟩
    · simp only [hs, if_false, Bool.false_eq_true]; exact (end_rest b s w h hs).mono fun e w' ⟨he, hw⟩ => ⟨he, hw.symm⟩
end Go.Proofs.Ytenmkfjgjemiiaa
namespace Go.Proofs
open Go.Shelf Go.RowKit
def Try.laysM316_ren : Go.Shelf.Ren := ⟨fun | 316 => 66 | n => n, fun | 9 => 9 | 3 => 3 | 4 => 4 | 37 => 53 | 0 => 0 | 127 => 99 | 5 => 5 | n => n, fun | n => n⟩
theorem Try.laysM316 : Go.Proofs.LaysM.n316 Try.prog Try.laysM316_ren := {
  mixed := by kernel_rfl
  f316 := Try.func66.trans (congrArg some (by kernel_rfl))
  t0 := Try.underlying0
  a0 := Try.isAgg0
  z0 := Try.sizeOf0
  v0 := Try.zeroValue0
  t3 := Try.underlying3
  a3 := Try.isAgg3
  z3 := Try.sizeOf3
  v3 := Try.zeroValue3
  t4 := Try.underlying4
  a4 := Try.isAgg4
  z4 := Try.sizeOf4
  v4 := Try.zeroValue4
  t9 := Try.underlying9
  a9 := Try.isAgg9
  z9 := Try.sizeOf9
  v9 := Try.zeroValue9
  t37 := Try.underlying53
  a37 := Try.isAgg53
  z37 := Try.sizeOf53
  v37 := Try.zeroValue53
  t127 := Try.underlying99
  a127 := Try.isAgg99
  z127 := Try.sizeOf99
  v127 := Try.zeroValue99
  t5 := Try.underlying5
  a5 := Try.isAgg5
  z5 := Try.sizeOf5
  v5 := Try.zeroValue5
  i0 := by kernel_rfl
  i3 := by kernel_rfl
  i4 := by kernel_rfl
  i5 := by kernel_rfl
  i9 := by kernel_rfl
  i37 := by kernel_rfl
  i127 := by kernel_rfl }
theorem Try.stringslite_Clone (s : ByteArray) (w : World) (hlim : s.size ≤ 281474976710656) :
    Calls Try.prog 66 #[.string s] w fun e w' => e = .returned (.string s) ∧ Below w.heap.size w w' := Any.stringslite_Clone Try.laysM316 s w hlim
end Go.Proofs
namespace Go.Proofs.Ytenmkfjgjemiiaa
open Go.RowKit
theorem clone_any (s : ByteArray) (w : World) (hlim : s.size ≤ 281474976710656) :
    Calls Try.prog 65 #[.string s] w fun e w' => e = .returned (.string s) ∧ Below w.heap.size w w' := by
  go_enter Try.func65, Try.ntmps65
  go_wp2_with fail
  refine (Try.stringslite_Clone s _ hlim).mono ?_
  rintro e w1 ⟨rfl, hb⟩
  have HB := Lib.hid hb
  clear hb
  go_wp2_with fail
  go_ret
  exact ⟨rfl, HB.out⟩
def rdTake (s : List UInt8) (f : Bool) (n : Nat) : List UInt8 × List UInt8 × Bool := if n ≤ s.length then (s.take n, s.drop n, f) else ([], [], true)
theorem take_any (b : Nat) (s : List UInt8) (f : Bool) (n : Nat) (w : World) (h : Rd b s f w) :
    Calls Try.prog 64 #[.pointer (some ⟨b, 0, none⟩), .int .i64 n] w fun e w' => e = .returned (.string ⟨(rdTake s f n).1.toArray⟩) ∧ Rd b (rdTake s f n).2.1 (rdTake s f n).2.2 w' ∧ But b w w' := by
  unfold rdTake
  by_cases hn : n ≤ s.length
  · simp only [hn, if_true]; exact take_some b s f n w h hn
  · simp only [hn, if_false]; exact take_few b s f n w h (by omega)
theorem rdTake_length (s : List UInt8) (f : Bool) (n : Nat) : (rdTake s f n).1.length ≤ s.length ∧ (rdTake s f n).2.1.length ≤ s.length := by
  unfold rdTake
  split <;> simp
  omega
theorem rdNum_length (s : List UInt8) : (rdNum s).2.1.length ≤ s.length := by
  unfold rdNum
  split
  · rename_i n r h; have := takeNum_len h; simp only; omega
  · simp
def rdText (s : List UInt8) : List UInt8 × List UInt8 × Bool := match takeText s with | some (t, r) => (t, r, false) | none => ([], [], true)
theorem rdText_eq (s : List UInt8) : rdText s = rdTake (rdNum s).2.1 (rdNum s).2.2 (rdNum s).1 := by
  unfold rdText takeText rdNum
  cases h : takeNum s with
  | none => simp [rdTake]
  | some p =>
    obtain ⟨n, r⟩ := p
    simp only [rdTake]
    by_cases hn : n ≤ r.length <;> simp [hn]
theorem rdText_length (s : List UInt8) : (rdText s).1.length ≤ s.length ∧ (rdText s).2.1.length ≤ s.length := by
  rw [rdText_eq]
  have := rdNum_length s
  have := rdTake_length (rdNum s).2.1 (rdNum s).2.2 (rdNum s).1
  omega
theorem rtext_any (b : Nat) (s : List UInt8) (f : Bool) (w : World) (h : Rd b s f w) (hf : f = true → s = []) (hs : s.length ≤ 262144) :
    Calls Try.prog 61 #[.pointer (some ⟨b, 0, none⟩)] w fun e w' => e = .returned (.string ⟨(rdText s).1.toArray⟩) ∧ Rd b (rdText s).2.1 (rdText s).2.2 w' ∧ But b w w' := by
  have hl := (rdText_length s).1
  rw [rdText_eq] at hl ⊢
  have H := Lib.hid h
  have HF := Lib.hid hf
  clear h hf
  go_enter Try.func61, Try.ntmps61
  go_wp2_with fail
  refine (rnum_any b s f _ H.out HF.out).mono ?_
  rintro e w1 ⟨rfl, h1, hb1⟩
  have H1 := Lib.hid h1
  have HB1 := Lib.hid hb1
  clear h1 hb1 H
  go_wp2_with fail
  refine (take_any b _ _ _ _ H1.out).mono ?_
  rintro e w2 ⟨rfl, h2, hb2⟩
  have HB2 := Lib.hid (HB1.out.trans hb2)
  have H2 := Lib.hid h2
  clear h2 hb2 HB1 H1
  go_wp2_with fail
  refine (clone_any _ _ (by show (List.toArray _).size ≤ _; simp; omega)).mono ?_
  rintro e w3 ⟨rfl, hb3⟩
  have H3 := Lib.hid (H2.out.below hb3)
  have HB3 := Lib.hid (HB2.out.below hb3)
  clear hb3 H2 HB2
  go_wp2_with fail
  go_ret
  exact ⟨rfl, H3.out, HB3.out⟩
end Go.Proofs.Ytenmkfjgjemiiaa
namespace Go.Proofs.Ytenmkfjgjemiiaa
open Go.RowKit
def rdList (s : List UInt8) : List (List UInt8) × List UInt8 × Bool := match takeList s with | some (l, r) => (l, r, false) | none => ([], [], true)
theorem rlist_many (b : Nat) (s : List UInt8) (f : Bool) (w : World) (h : Rd b s f w) (hf : f = true → s = []) (hn : 4096 < (rdNum s).1) (hlt : (rdNum s).1 < 9223372036854775808) :
    Calls Try.prog 47 #[.pointer (some ⟨b, 0, none⟩)] w fun e w' => e = .returned (.slice none 0 0) ∧ Rd b [] true w' ∧ But b w w' := by
  have H := Lib.hid h
  have HF := Lib.hid hf
  clear h hf
  go_enter Try.func47, Try.ntmps47
  go_wp2_with fail
  refine (rnum_any b s f _ H.out HF.out).mono ?_
  rintro e w1 ⟨rfl, h1, hb1⟩
  have H1 := Lib.hid h1
  have HB1 := Lib.hid hb1
  clear h1 hb1 H
  go_wp2_with fail
  refine (fail_any b _ _ _ H1.out).mono ?_
  rintro e w2 ⟨rfl, h2, hb2⟩
  have H2 := Lib.hid h2
  have HB2 := Lib.hid (HB1.out.trans hb2)
  clear h2 hb2 HB1 H1
  go_wp2_with fail
  go_ret
  exact ⟨rfl, H2.out, HB2.out⟩
def TextsPost (B b : Nat) (f1 : Bool) (o : Option (List (List UInt8) × List UInt8)) (v : Value) (w' : World) : Prop :=
  match o with
  | some (l, q) => OwnS B v l w' ∧ Rd b q f1 w'
  | none => v = .slice none 0 0 ∧ Rd b [] true w'
set_option maxHeartbeats 1000000 in
set_option maxRecDepth 100000 in
theorem rlist_texts (b : Nat) (s r : List UInt8) (f f1 : Bool) (n : Nat) (w : World) (h : Rd b s f w) (hf : f = true → s = []) (hs : s.length ≤ 262144) (hn : rdNum s = (n, r, f1)) (h4 : n ≤ 4096) (hf1 : f1 = true → n = 0 ∧ r = []) :
    Calls Try.prog 47 #[.pointer (some ⟨b, 0, none⟩)] w fun e w' => ∃ v, e = .returned v ∧ But b w w' ∧ TextsPost w.heap.size b f1 (takeTexts n r) v w' := by
  have hr : r.length ≤ 262144 := by have := rdNum_length s; rw [hn] at this; simp only at this; omega
  have hblt := h.lt
  have hcall := rnum_any b s f w h hf
  rw [hn] at hcall
  have HC := Lib.hid hcall
  have HF := Lib.hid hf1
  clear hcall hf hn hs h hf1
  obtain ⟨i0, hi, hz0, hz1, hz2⟩ := info_parts Try.infoString
  go_enter Try.func47, Try.ntmps47
  go_wp2_with fail
  refine HC.out.mono ?_
  rintro e w1 ⟨rfl, h1, hb1⟩
  have H1 := Lib.hid h1
  have HB1 := Lib.hid hb1
  clear h1 hb1 HC
  go_wp2_with fail
  go_loopw [4, 14] (fun v i wr => ∃ (q : Nat) (l : List (List UInt8)) (rest : List UInt8), q ≤ n ∧ i = .int .i64 q ∧ takeTexts q r = some (l, rest) ∧ OwnS w.heap.size v l wr ∧ Rd b rest f1 wr ∧ But b w wr) (fun _ i _ => n - (intOf i).toNat)
  case atStart => exact ⟨0, [], r, Nat.zero_le _, rfl, rfl, OwnS.nil _ _, H1.out, HB1.out⟩
  case round =>
    obtain ⟨q, l, rest, hq, rfl, htk, hown, hrd, hbut⟩ := hrel
    have hll : l.length = q := (takeTexts_some _ _ _ _ htk).2
    have hrest := takeTexts_len htk
    by_cases hlt : q < n
    · have f10 : f1 = false := by cases f1 with | false => rfl | true => have := (HF.out rfl).1; omega
      subst f10
      have HT := Lib.hid htk
      have HL := Lib.hid hll
      have HO := Lib.hid hown
      have HR := Lib.hid hrd
      have HB := Lib.hid hbut
      obtain ⟨ao, cap, hv⟩ := hown.form
      subst hv
      clear htk hll hown hrd hbut
      go_wp2_with fail
      refine (rtext_any b rest false _ HR.out (fun h => by cases h) (by omega)).mono ?_
      rintro e w2 ⟨rfl, h2, hb2⟩
      have H2 := Lib.hid h2
      have HB2 := Lib.hid (HB.out.trans hb2)
      have HO2 := Lib.hid (HO.out.but hb2 hblt)
      have hsz := hb2.size
      have hszw := HB.out.size
      have hll2 : l.length ≤ 4096 := by have := HL.out; omega
      clear h2 hb2 HB HO HR
      go_wp2_with (at_builtin; refine wpList_append_own _ rfl _ _ 61 rfl w.heap.size 9 i0 (.string ⟨#[]⟩) 1 16 Try.underlying61 hi hz0 hz1 hz2 rfl (by decide) _ _ _ rfl (World.ownsRow.alloc HO2.out _) ⟨w2.heap.size, 0, none⟩ 1 1 [.string ⟨(rdText rest).1.toArray⟩] rfl rfl ?c1 ?c2 ?c3 ?c4 ?c5 ?_)
      case c1 =>
        intro j u hj
        match j, hj with
        | 0, hj => simp at hj; subst hj; simp [Addr.add]
      case c2 => intro u hu; simp at hu; subst hu; rfl
      case c3 => unfold maxLen; omega
      case c4 => omega
      case c5 => simp; omega
      intro v' w3 hown' hgrow _
      have hrow : ∀ g, (Value.slice ao l.length cap).ownBlock = some g → w.heap.size ≤ g := fun g hg => (HO2.out.lt g hg).1
      have H3 := Lib.hid (show Rd b (rdText rest).2.1 (rdText rest).2.2 w3 from (hgrow.block b (by simp; omega) (fun e => by have := hrow b e.symm; omega)).trans ((Lib.alloc_old w2 _ b (by omega)).trans H2.out))
      have HB3 := Lib.hid (show But b w w3 from ⟨hgrow.os.trans HB2.out.os, hgrow.tape.trans HB2.out.tape, hgrow.output.trans HB2.out.output, by have := hgrow.size; simp at this; omega, fun k hk hkb => by
        rw [hgrow.block k (by simp; omega) (fun e => by have := hrow k e.symm; omega), Lib.alloc_old w2 _ k (by omega)]
        exact HB2.out.block k hk hkb⟩)
      have HO3 := Lib.hid (show OwnS w.heap.size v' (l ++ [(rdText rest).1]) w3 by
        unfold OwnS
        rw [strs_snoc, List.length_append]
        exact hown')
      have HTs := Lib.hid (takeTexts_succ q r)
      have g1 := H3.out.cell1
      clear hown' hgrow hrow H2 HB2 HO2 hsz hszw
      cases htt : takeText rest with
      | none =>
        have e3 : rdText rest = ([], [], true) := by simp only [rdText, htt]
        rw [e3] at H3 HO3 g1 ⊢
        have HN := Lib.hid (show takeTexts n r = none from takeTexts_none_mono (k := q + 1) (by rw [HTs.out, HT.out]; simp only [htt]) n (by omega))
        clear htt e3
        go_wp2_with fail
        go_ret
        refine ⟨_, rfl, HB3.out, ?_⟩
        rw [HN.out]
        exact ⟨rfl, H3.out⟩
      | some p =>
        obtain ⟨t, r2⟩ := p
        have e3 : rdText rest = (t, r2, false) := by simp only [rdText, htt]
        rw [e3] at H3 HO3 g1 ⊢
        have HN := Lib.hid (show takeTexts (q + 1) r = some (l ++ [t], r2) by rw [HTs.out, HT.out]; simp only [htt])
        clear htt e3
        go_wp2_with fail
        refine ⟨⟨q + 1, l ++ [t], r2, by omega, by go_num, HN.out, HO3.out, H3.out, HB3.out⟩, by simp [intOf]; omega⟩
    · obtain rfl : q = n := by omega
      have HT := Lib.hid htk
      have HO := Lib.hid hown
      have HR := Lib.hid hrd
      have HB := Lib.hid hbut
      clear htk hll hown hrd hbut
      go_wp2_with fail
      go_ret
      refine ⟨_, rfl, HB.out, ?_⟩
      rw [HT.out]
      exact ⟨HO.out, HR.out⟩
theorem rlist_any (b : Nat) (s : List UInt8) (f : Bool) (w : World) (h : Rd b s f w) (hf : f = true → s = []) (hs : s.length ≤ 262144) :
    Calls Try.prog 47 #[.pointer (some ⟨b, 0, none⟩)] w fun e w' => ∃ v, e = .returned v ∧ OwnS w.heap.size v (rdList s).1 w' ∧ Rd b (rdList s).2.1 (rdList s).2.2 w' ∧ But b w w' := by
  cases hn : takeNum s with
  | none =>
    have e1 : rdNum s = (0, [], true) := by simp only [rdNum, hn]
    have e2 : rdList s = ([], [], true) := by simp only [rdList, takeList, hn]
    rw [e2]
    refine (rlist_texts b s [] f true 0 w h hf hs e1 (by omega) (fun _ => ⟨rfl, rfl⟩)).mono ?_
    rintro e w' ⟨v, rfl, hb, ho, hr⟩
    exact ⟨v, rfl, ho, hr, hb⟩
  | some p =>
    obtain ⟨n, r⟩ := p
    have e1 : rdNum s = (n, r, false) := by simp only [rdNum, hn]
    by_cases h4 : n ≤ 4096
    · refine (rlist_texts b s r f false n w h hf hs e1 h4 (fun h => by cases h)).mono ?_
      rintro e w' ⟨v, rfl, hb, hm⟩
      have e2 : rdList s = (match takeTexts n r with | some (l, q) => (l, q, false) | none => ([], [], true)) := by
        simp only [rdList, takeList, hn, h4, if_true]
      rw [e2]
      cases ht : takeTexts n r with
      | none =>
        rw [ht] at hm
        obtain ⟨rfl, hr⟩ := hm
        exact ⟨_, rfl, OwnS.nil _ _, hr, hb⟩
      | some p =>
        obtain ⟨l, q⟩ := p
        rw [ht] at hm
        exact ⟨v, rfl, hm.1, hm.2, hb⟩
    · have e2 : rdList s = ([], [], true) := by simp only [rdList, takeList, hn, h4, if_false]
      rw [e2]
      refine (rlist_many b s f w h hf (by rw [e1]; simp only; omega) (by rw [e1]; exact takeNum_lt hn)).mono ?_
      rintro e w' ⟨rfl, hr, hb⟩
      exact ⟨_, rfl, OwnS.nil _ _, hr, hb⟩
end Go.Proofs.Ytenmkfjgjemiiaa
namespace Go.Proofs.Ytenmkfjgjemiiaa
open Go.RowKit
def SplitEnd (B : Nat) (o : Option (List (List UInt8))) (e : Ending) (w' : World) : Prop :=
  ∃ v, e = .returned (.tuple #[v, .int .i64 (if o.isSome then 0 else 4)]) ∧ OwnS B v (o.getD []) w'
theorem endCode_split {s : List UInt8} (hs : ¬ 262144 < s.length) : endCode (rdList s).2.1 (rdList s).2.2 = if (splitB s).isSome then 0 else 4 := by
  unfold splitB rdList endCode
  rw [if_neg hs]
  cases h : takeList s with
  | none => simp
  | some p =>
    obtain ⟨l, r⟩ := p
    cases r <;> simp
theorem rdList_split {s : List UInt8} {l : List (List UInt8)} (h : splitB s = some l) : (rdList s).1 = l := by
  unfold splitB at h
  split at h
  · cases h
  · unfold rdList
    cases ht : takeList s with
    | none => rw [ht] at h; cases h
    | some p =>
      obtain ⟨l', r⟩ := p
      rw [ht] at h
      cases r with
      | nil => simpa using h
      | cons => cases h
theorem split_long (s : List UInt8) (w : World) (hm : s.length ≤ 9223372036854775807) (h : 262144 < s.length) :
    Calls Try.prog 35 #[.string ⟨s.toArray⟩] w fun e w' => SplitEnd w.heap.size (splitB s) e w' ∧ Below w.heap.size w w' := by
  have e : splitB s = none := by simp only [splitB, h, if_true]
  rw [e]
  go_enter Try.func35, Try.ntmps35
  go_wp2_with fail
  refine (open_long s _ h hm).mono ?_
  rintro e w1 ⟨rfl, hr, hb⟩
  have HR := Lib.hid hr
  have HB := Lib.hid hb
  clear hr hb
  go_wp2_with fail
  have c := rlist_any _ [] true _ HR.out (fun _ => rfl) (by simp)
  rw [show rdList [] = ([], [], true) from rfl] at c
  refine c.mono ?_
  rintro e w2 ⟨v, rfl, ho, hr2, hb2⟩
  have HR2 := Lib.hid hr2
  have HB2 := Lib.hid (hb2.toBelow HB.out (Nat.le_refl _) HB.out.size)
  clear c ho hr2 hb2 HR HB
  go_wp2_with fail
  refine (end_failed _ _ _ HR2.out).mono ?_
  rintro e w3 ⟨rfl, rfl⟩
  go_wp2_with fail
  go_ret2
  exact ⟨⟨_, rfl, OwnS.nil _ _⟩, HB2.out⟩
theorem split_any (s : List UInt8) (w : World) (hm : s.length ≤ 9223372036854775807) :
    Calls Try.prog 35 #[.string ⟨s.toArray⟩] w fun e w' => SplitEnd w.heap.size (splitB s) e w' ∧ Below w.heap.size w w' := by
  by_cases hlong : 262144 < s.length
  · exact split_long s w hm hlong
  · have HE := Lib.hid (endCode_split hlong)
    go_enter Try.func35, Try.ntmps35
    go_wp2_with fail
    refine (open_ok s _ (by omega)).mono ?_
    rintro e w1 ⟨rfl, hr, hb⟩
    have HR := Lib.hid hr
    have HB := Lib.hid hb
    clear hr hb
    go_wp2_with fail
    refine (rlist_any _ s false _ HR.out (fun h => by cases h) (by omega)).mono ?_
    rintro e w2 ⟨v, rfl, ho, hr2, hb2⟩
    have HR2 := Lib.hid hr2
    have HB2 := Lib.hid (hb2.toBelow HB.out (Nat.le_refl _) HB.out.size)
    have HO2 := Lib.hid (ho.mono HB.out.size)
    obtain ⟨ao, cap, rfl⟩ := ho.form
    clear ho hr2 hb2 HR HB
    go_wp2_with fail
    have c := end_any _ _ _ _ HR2.out
    rw [HE.out] at c
    cases hs : splitB s with
    | none =>
      rw [hs] at c
      have HS := Lib.hid hs
      clear hs
      refine c.mono ?_
      rintro e w3 ⟨rfl, rfl⟩
      clear c
      simp only [Option.isSome_none]
      go_wp2_with fail
      go_ret2
      rw [HS.out]
      exact ⟨⟨_, rfl, OwnS.nil _ _⟩, HB2.out⟩
    | some l =>
      have HL := Lib.hid (rdList_split hs)
      rw [hs] at c
      have HS := Lib.hid hs
      clear hs
      refine c.mono ?_
      rintro e w3 ⟨rfl, rfl⟩
      clear c
      simp only [Option.isSome_some]
      go_wp2_with fail
      go_ret2
      rw [HS.out]
      refine ⟨⟨_, rfl, ?_⟩, HB2.out⟩
      simp only [Option.getD_some]
      rw [← HL.out]
      exact HO2.out
end Go.Proofs.Ytenmkfjgjemiiaa
namespace Go.Proofs.Ytenmkfjgjemiiaa
open Go.RowKit Go.BigFrame
def DrD (o : Option DraftN) : Value := .tuple #[.agg (draftV (o.getD zeroD)), .int .i64 (if o.isSome then 0 else 4)]
theorem readD_parts4 {s : List UInt8} (h : ∀ k key val r, splitB s = some [k, key, val, r] → False) : readD s = none := by
  unfold readD
  split
  · rename_i k key val r hs
    exact (h k key val r hs).elim
  · rfl
theorem built_draft3 (k : Int) (a b : List UInt8) : Try.prog.built 28 [(0, .int .i64 k), (1, .string ⟨a.toArray⟩), (2, .string ⟨b.toArray⟩)] = some (draftV ⟨k, a, b, zeroI⟩) := by
  rw [draft_fill]
  refine (fill_lay placeD 0 0 1 _ _ [] [.int .i64 0] (.string ⟨#[]⟩ :: .string ⟨#[]⟩ :: nums .u8 zeroI) [.int .i64 k] rfl rfl rfl rfl rfl).trans ?_
  refine (fill_lay placeD 1 1 1 _ _ [.int .i64 k] [.string ⟨#[]⟩] (.string ⟨#[]⟩ :: nums .u8 zeroI) [.string ⟨a.toArray⟩] rfl rfl rfl rfl rfl).trans ?_
  refine (fill_lay placeD 2 2 1 (.string ⟨b.toArray⟩) [] [.int .i64 k, .string ⟨a.toArray⟩] [.string ⟨#[]⟩] (nums .u8 zeroI) [.string ⟨b.toArray⟩] rfl rfl rfl rfl rfl).trans ?_
  rw [fill_end]
  rfl
theorem draft_lay (k : Int) (a b r : List UInt8) : layV (draftL ⟨k, a, b, zeroI⟩) 3 (nums .u8 (byteNs (r.take 32))) = draftL ⟨k, a, b, refP r⟩ := by
  have hl : (nums .u8 (byteNs (r.take 32))).length = min 32 r.length := by rw [nums_len, byteNs_len, List.length_take]
  have hd : ∀ l : List Nat, draftL ⟨k, a, b, l⟩ = [.int .i64 k, .string ⟨a.toArray⟩, .string ⟨b.toArray⟩] ++ nums .u8 l := fun l => rfl
  have h0 : (draftL ⟨k, a, b, zeroI⟩).length = 35 := draftL_len rfl
  refine List.ext_getElem? fun j => ?_
  rw [layV_get _ _ _ _ (by rw [hl, h0]; omega), hl, hd, hd]
  by_cases h3 : j < 3
  · rw [if_neg (by omega), List.getElem?_append_left (by simpa using h3), List.getElem?_append_left (by simpa using h3)]
  · rw [List.getElem?_append_right (by simpa using Nat.le_of_not_lt h3), List.getElem?_append_right (by simpa using Nat.le_of_not_lt h3)]
    have e : ∀ x y : List Nat, nums .u8 (x ++ y) = nums .u8 x ++ nums .u8 y := fun x y => by simp [nums]
    rw [show ([Value.int .i64 k, .string ⟨a.toArray⟩, .string ⟨b.toArray⟩] : List Value).length = 3 from rfl, refP, e]
    by_cases hj : j < 3 + min 32 r.length
    · rw [if_pos (by omega), List.getElem?_append_left (by rw [hl]; omega)]
    · rw [if_neg (by omega), List.getElem?_append_right (by rw [hl]; omega), hl]
      simp only [nums, zeroI, List.getElem?_map, List.getElem?_drop, List.getElem?_replicate]
      by_cases h35 : j - 3 < 32
      · rw [if_pos h35, if_pos (by omega)]
      · rw [if_neg h35, if_neg (by omega)]
set_option maxHeartbeats 4000000 in
set_option maxRecDepth 100000 in
theorem dev_readDraft (s : List UInt8) (w : World) (hm : s.length ≤ 1000000) :
    Calls Try.prog 50 #[.string ⟨s.toArray⟩] w fun e w' => e = .returned (DrD (readD s)) ∧ Below w.heap.size w w' := by
  have hsz : (Try.prog.info? 28).map (·.size) = some (draftV zeroD).size := Try.sizeD
  have HS := Lib.hid hsz
  have HM := Lib.hid hm
  clear hsz hm
  go_enter Try.func50, Try.ntmps50
  go_upto_region 1 with (fail)
  have hx : Cells w.heap.size 28 (draftV zeroD) (w.alloc (.cells (draftV zeroD) 28)) := heap_alloc_new w _
  have hb : Below w.heap.size w (w.alloc (.cells (draftV zeroD) 28)) := (Below.refl _ _).alloc (Nat.le_refl _) _
  rw [zeroD_lit] at hx hb
  obtain ⟨w1, hw1⟩ : ∃ x, x = w.alloc (.cells (draftV zeroD) 28) := ⟨_, rfl⟩
  rw [zeroD_lit] at hw1
  rw [← hw1] at hx hb ⊢
  rw [← zeroD_lit] at hx
  have HX := Lib.hid hx
  have HB := Lib.hid hb
  clear hw1 hx hb
  go_wp2_with fail
  obtain ⟨q, hq⟩ : ∃ q, splitB s = q := ⟨_, rfl⟩
  have HL := Shut.mk hq
  have hcc := split_any s w1 (by have := HM.out; omega)
  rw [hq] at hcc
  clear hq
  refine hcc.mono ?_
  rintro e w2 ⟨⟨v, rfl, ho⟩, hb⟩
  obtain ⟨ao, cq, rfl⟩ := ho.form
  have HX2 := Lib.hid (HX.out.below hb)
  have HB2 := Lib.hid (HB.out.trans (hb.mono HB.out.size))
  have HSA := Lib.hid (strsAt_own ho)
  clear hcc ho hb HX HB
  cases q with
  | none =>
    simp only [Option.getD_none, List.length_nil, Option.isSome_none]
    have HR := Shut.mk (readD_parts4 (s := s) (by intro k key val r h; rw [HL.out] at h; cases h))
    clear HSA
    go_upto_region 3 with (fail)
    refine wp_region_lit ?_
    refine wpList_build_val rfl 28 #[] rfl [] _ (by simp) built_draft0 ?_
    simp only [Act.put, List.setIfInBounds_toArray, List.set_cons_zero, List.set_cons_succ]
    refine wpList_store_cells rfl 28 _ _ rfl rfl w.heap.size (draftV zeroD) (draftV zeroD) 28 rfl rfl HX2.out HS.out rfl (draftV_all zeroD) ?_
    intro wf hc hb
    have HXF := Lib.hid hc.out
    have HBF := Lib.hid (show Below w.heap.size w wf from But.toBelow HB2.out hb.out (Nat.le_refl _) HB2.out.size)
    clear hc hb HX2 HB2
    go_wp2_with fail
    refine bodyPost_ret (results_cells_tmp rfl _ _ w.heap.size (draftV zeroD) 28 _ _ rfl rfl HXF.out Try.underlying28 rfl HS.out) rfl ?_
    exact ⟨by rw [HR.out]; rfl, HBF.out⟩
  | some l =>
    simp only [Option.getD_some, Option.isSome_some] at HSA ⊢
    obtain ⟨n, hn⟩ : ∃ n, l.length = n := ⟨_, rfl⟩
    by_cases h4 : n = 4
    · rw [hn]
      subst h4
      obtain ⟨k, key, val, r, rfl⟩ : ∃ a b c d, l = [a, b, c, d] := by
        match l, hn with
        | [a, b, c, d], _ => exact ⟨a, b, c, d, rfl⟩
      have HLR := Lib.hid (split_parts HL.out)
      obtain ⟨g, og, rfl, hg, c0, c1, c2, c3⟩ := strs4 HSA.out
      have HG3 := Lib.hid hg
      have HD0 := Lib.hid c0
      have HD1 := Lib.hid c1
      have HD2 := Lib.hid c2
      have HD3 := Lib.hid c3
      clear hn HSA hg c0 c1 c2 c3
      go_upto_region 4 with (fail)
      obtain ⟨x, hxn⟩ : ∃ x, openN k = x := ⟨_, rfl⟩
      have HXN := Shut.mk hxn
      obtain ⟨d0, hd0⟩ : ∃ d : DraftN, d = ⟨(x : Int), key, val, zeroI⟩ := ⟨_, rfl⟩
      have HDD := Shut.mk hd0
      have hdr : d0.ref.length = 32 := by rw [hd0]; rfl
      have HDR := Lib.hid hdr
      have HKL := Lib.hid (show k.length ≤ 262144 from HLR.out k (by simp))
      have HI0 := Lib.hid (show ∀ w, (Instr.indexAt 61 (.slice (some ⟨g, og, none⟩) 4 cq) (.int .i64 0)).run Try.prog w = .ok (.pointer (some ⟨g, og, none⟩)) w from fun w => by go_simp)
      have HI1 := Lib.hid (show ∀ w, (Instr.indexAt 61 (.slice (some ⟨g, og, none⟩) 4 cq) (.int .i64 1)).run Try.prog w = .ok (.pointer (some ⟨g, og + 1, none⟩)) w from fun w => by go_simp)
      have HI2 := Lib.hid (show ∀ w, (Instr.indexAt 61 (.slice (some ⟨g, og, none⟩) 4 cq) (.int .i64 2)).run Try.prog w = .ok (.pointer (some ⟨g, og + 2, none⟩)) w from fun w => by go_simp)
      have HAL := Lib.hid (show ∀ w : World, (Instr.alloc 28 true (.tuple #[])).run Try.prog w = .ok (.pointer (some ⟨w.heap.size, 0, none⟩)) (w.alloc (.cells (draftV zeroD) 28)) from fun w => by kernel_rfl)
      have HBD := Lib.hid (show ∀ w, (Instr.build 28 ([(0, .int .i64 (x : Int)), (1, .string ⟨key.toArray⟩), (2, .string ⟨val.toArray⟩)] : List (Nat × Value)).toArray).run Try.prog w = .ok (.agg (draftV d0)) w from fun w => by
        have hb := built_draft3 (x : Int) key val
        rw [← HDD.out] at hb
        exact run_build w 28 _ _ hb)
      have HDZ := Lib.hid (show Below w2.heap.size w2 w2.drew from (Below.refl _ _).drew)
      have HSD := Lib.hid (show (Try.prog.info? 28).map (·.size) = some (draftV d0).size by rw [draftV_size HDR.out]; exact Try.sizeD)
      have HSZ := Lib.hid (show (draftV zeroD).size = (draftV d0).size by rw [draftV_size HDR.out]; rfl)
      clear hd0 hdr hxn
      refine wp_region_free 13 (fun q V w' => Val q V 0 (.slice (some ⟨g, og, none⟩) 4 cq) ∧ Val q V 1 (.pointer (some ⟨g, og, none⟩)) ∧ Val q V 2 (.string ⟨k.toArray⟩) ∧ Val q V 4 (.int .i64 (x : Int)) ∧ Val q V 5 (.slice (some ⟨g, og, none⟩) 4 cq) ∧ Val q V 6 (.pointer (some ⟨g, og + 1, none⟩)) ∧ Val q V 7 (.string ⟨key.toArray⟩) ∧ Val q V 8 (.slice (some ⟨g, og, none⟩) 4 cq) ∧ Val q V 9 (.pointer (some ⟨g, og + 2, none⟩)) ∧ Val q V 10 (.string ⟨val.toArray⟩) ∧ Val q V 11 (.agg (draftV d0)) ∧ NewC q V w2.heap.size 12 28 (draftV zeroD) w' ∧ Below w2.heap.size w2 w' ∧ NewR q V w2.heap.size 3 4 k w') (fun _ => undef) (by kernel_rfl) (by kernel_rfl) (by kernel_rfl) (by simp only [List.take_succ_cons, List.take_zero, putAll, Act.put, List.setIfInBounds_toArray, List.set_cons_zero, List.set_cons_succ]) ⟨Val.none, Val.none, Val.none, Val.none, Val.none, Val.none, Val.none, Val.none, Val.none, Val.none, Val.none, NewC.none, HDZ.out, NewR.none⟩ ?_ ?_
      · simp only [List.take_succ_cons, List.take_zero, putAll, Nat.zero_add, Nat.reduceAdd, Act.put, List.setIfInBounds_toArray, List.set_cons_zero, List.set_cons_succ]
        refine FreeSteps.cons ?_ (FreeSteps.cons ?_ (FreeSteps.cons ?_ (FreeSteps.cons ?_ (FreeSteps.cons ?_ (FreeSteps.cons ?_ (FreeSteps.cons ?_ (FreeSteps.cons ?_ (FreeSteps.cons ?_ (FreeSteps.cons ?_ (FreeSteps.cons ?_ (FreeSteps.cons ?_ (FreeSteps.cons ?_ (FreeSteps.nil)))))))))))))
        all_goals (refine FreeStep.fresh rfl ?_; rintro q V wq hr hu ⟨h0, h1, h2, h4, h5, h6, h7, h8, h9, h10, h11, h12, hb, hR⟩ K hK)
        · exact op_move (.tmp 4) rfl _ rfl (hK _ _ ⟨.same, h1.ne (by decide), h2.ne (by decide), h4.ne (by decide), h5.ne (by decide), h6.ne (by decide), h7.ne (by decide), h8.ne (by decide), h9.ne (by decide), h10.ne (by decide), h11.ne (by decide), h12.ne (by decide) (Below.refl _ _), hb, hR.ne (by decide) (Below.refl _ _)⟩)
        · exact op_indexAt 61 (.tmp 20) (.const (.int .i64 0)) rfl _ _ _ (h0 (hr { on := 0, ground := .data } (by simp) rfl)) rfl HI0.out (hK _ _ ⟨h0.ne (by decide), .same, h2.ne (by decide), h4.ne (by decide), h5.ne (by decide), h6.ne (by decide), h7.ne (by decide), h8.ne (by decide), h9.ne (by decide), h10.ne (by decide), h11.ne (by decide), h12.ne (by decide) (Below.refl _ _), hb, hR.ne (by decide) (Below.refl _ _)⟩)
        · exact op_load_cell 9 (.tmp 21) rfl _ _ (h1 (hr { on := 1, ground := .data } (by simp) rfl)) ((hb.cell (p := ⟨g, og, none⟩) HG3.out).trans HD0.out) Try.isAgg9 (hK _ _ ⟨h0.ne (by decide), h1.ne (by decide), .same, h4.ne (by decide), h5.ne (by decide), h6.ne (by decide), h7.ne (by decide), h8.ne (by decide), h9.ne (by decide), h10.ne (by decide), h11.ne (by decide), h12.ne (by decide) (Below.refl _ _), hb, hR.ne (by decide) (Below.refl _ _)⟩)
        · refine op_call Try.func46 rfl rfl rfl [.string ⟨k.toArray⟩] (congrArg (fun x => [x]) (h2 (hr { on := 2, ground := .data } (by simp) rfl))) (open_ok k wq HKL.out) ?_
          rintro e w' ⟨rfl, hrd, hb'⟩
          exact ⟨_, rfl, (hK _ _ ⟨h0.ne (by decide), h1.ne (by decide), h2.ne (by decide), h4.ne (by decide), h5.ne (by decide), h6.ne (by decide), h7.ne (by decide), h8.ne (by decide), h9.ne (by decide), h10.ne (by decide), h11.ne (by decide), h12.ne (by decide) hb', hb.trans (hb'.mono hb.size), .same hb.size hrd⟩)⟩
        · obtain ⟨gr, hgr, hbg, hrd⟩ := hR (hr { on := 3, ground := .data } (by simp) rfl) hu
          refine op_call Try.func60 rfl rfl rfl [.pointer (some ⟨gr, 0, none⟩)] (congrArg (fun x => [x]) hgr) (rnum_any gr k false wq hrd (fun h => by cases h)) ?_
          rintro e w' ⟨rfl, hrd', hbt⟩
          have hBT : Below w2.heap.size w2 w' := But.toBelow hb hbt hbg hb.size
          have hT : ∀ g t cs, t ≠ 101 → Cells g t cs wq → Cells g t cs w' := fun g t cs ht hc => hc.but hbt (hrd.notCells hc ht)
          refine ⟨_, rfl, ?_⟩
          rw [show (rdNum k).1 = x from HXN.out]
          exact (hK _ _ ⟨h0.ne (by decide), h1.ne (by decide), h2.ne (by decide), .same, h5.ne (by decide), h6.ne (by decide), h7.ne (by decide), h8.ne (by decide), h9.ne (by decide), h10.ne (by decide), h11.ne (by decide), h12.turn (by decide) (fun g => hT g _ _ (by decide)), hBT, .used⟩)
        · exact op_move (.tmp 4) rfl _ rfl (hK _ _ ⟨h0.ne (by decide), h1.ne (by decide), h2.ne (by decide), h4.ne (by decide), .same, h6.ne (by decide), h7.ne (by decide), h8.ne (by decide), h9.ne (by decide), h10.ne (by decide), h11.ne (by decide), h12.ne (by decide) (Below.refl _ _), hb, hR.ne (by decide) (Below.refl _ _)⟩)
        · exact op_indexAt 61 (.tmp 25) (.const (.int .i64 1)) rfl _ _ _ (h5 (hr { on := 5, ground := .data } (by simp) rfl)) rfl HI1.out (hK _ _ ⟨h0.ne (by decide), h1.ne (by decide), h2.ne (by decide), h4.ne (by decide), h5.ne (by decide), .same, h7.ne (by decide), h8.ne (by decide), h9.ne (by decide), h10.ne (by decide), h11.ne (by decide), h12.ne (by decide) (Below.refl _ _), hb, hR.ne (by decide) (Below.refl _ _)⟩)
        · exact op_load_cell 9 (.tmp 26) rfl _ _ (h6 (hr { on := 6, ground := .data } (by simp) rfl)) ((hb.cell (p := ⟨g, og + 1, none⟩) HG3.out).trans HD1.out) Try.isAgg9 (hK _ _ ⟨h0.ne (by decide), h1.ne (by decide), h2.ne (by decide), h4.ne (by decide), h5.ne (by decide), h6.ne (by decide), .same, h8.ne (by decide), h9.ne (by decide), h10.ne (by decide), h11.ne (by decide), h12.ne (by decide) (Below.refl _ _), hb, hR.ne (by decide) (Below.refl _ _)⟩)
        · exact op_move (.tmp 4) rfl _ rfl (hK _ _ ⟨h0.ne (by decide), h1.ne (by decide), h2.ne (by decide), h4.ne (by decide), h5.ne (by decide), h6.ne (by decide), h7.ne (by decide), .same, h9.ne (by decide), h10.ne (by decide), h11.ne (by decide), h12.ne (by decide) (Below.refl _ _), hb, hR.ne (by decide) (Below.refl _ _)⟩)
        · exact op_indexAt 61 (.tmp 28) (.const (.int .i64 2)) rfl _ _ _ (h8 (hr { on := 8, ground := .data } (by simp) rfl)) rfl HI2.out (hK _ _ ⟨h0.ne (by decide), h1.ne (by decide), h2.ne (by decide), h4.ne (by decide), h5.ne (by decide), h6.ne (by decide), h7.ne (by decide), h8.ne (by decide), .same, h10.ne (by decide), h11.ne (by decide), h12.ne (by decide) (Below.refl _ _), hb, hR.ne (by decide) (Below.refl _ _)⟩)
        · exact op_load_cell 9 (.tmp 29) rfl _ _ (h9 (hr { on := 9, ground := .data } (by simp) rfl)) ((hb.cell (p := ⟨g, og + 2, none⟩) HG3.out).trans HD2.out) Try.isAgg9 (hK _ _ ⟨h0.ne (by decide), h1.ne (by decide), h2.ne (by decide), h4.ne (by decide), h5.ne (by decide), h6.ne (by decide), h7.ne (by decide), h8.ne (by decide), h9.ne (by decide), .same, h11.ne (by decide), h12.ne (by decide) (Below.refl _ _), hb, hR.ne (by decide) (Below.refl _ _)⟩)
        · exact op_build 28 #[(0, .tmp 24), (1, .tmp 27), (2, .tmp 30)] rfl [(0, .int .i64 (x : Int)), (1, .string ⟨key.toArray⟩), (2, .string ⟨val.toArray⟩)] (draftV d0) (by
              have v4 := (h4 (hr { on := 4, ground := .data } (by simp) rfl))
              have v7 := (h7 (hr { on := 7, ground := .data } (by simp) rfl))
              have v10 := (h10 (hr { on := 10, ground := .data } (by simp) rfl))
              rw [List.map_toArray]
              show [((0 : Nat), V 4), (1, V 7), (2, V 10)].toArray = _
              rw [v4, v7, v10]) HBD.out (hK _ _ ⟨h0.ne (by decide), h1.ne (by decide), h2.ne (by decide), h4.ne (by decide), h5.ne (by decide), h6.ne (by decide), h7.ne (by decide), h8.ne (by decide), h9.ne (by decide), h10.ne (by decide), .same, h12.ne (by decide) (Below.refl _ _), hb, hR.ne (by decide) (Below.refl _ _)⟩)
        · exact op_alloc 28 rfl (draftV zeroD) HAL.out (hK _ _ ⟨h0.ne (by decide), h1.ne (by decide), h2.ne (by decide), h4.ne (by decide), h5.ne (by decide), h6.ne (by decide), h7.ne (by decide), h8.ne (by decide), h9.ne (by decide), h10.ne (by decide), h11.ne (by decide), .same hb.size, hb.alloc hb.size _, hR.ne (by decide) ((Below.refl _ _).alloc (Nat.le_refl _) _)⟩)
      rintro q V wq hall ⟨h0, h1, h2, h4, h5, h6, h7, h8, h9, h10, h11, h12, hb, hR⟩
      have v0 := h0 (hall 0 (by decide))
      have v1 := h1 (hall 1 (by decide))
      have v2 := h2 (hall 2 (by decide))
      obtain ⟨u3, v3⟩ : ∃ v, V 3 = v := ⟨_, rfl⟩
      have v4 := h4 (hall 4 (by decide))
      have v5 := h5 (hall 5 (by decide))
      have v6 := h6 (hall 6 (by decide))
      have v7 := h7 (hall 7 (by decide))
      have v8 := h8 (hall 8 (by decide))
      have v9 := h9 (hall 9 (by decide))
      have v10 := h10 (hall 10 (by decide))
      have v11 := h11 (hall 11 (by decide))
      obtain ⟨g12, v12, hg12, hc12⟩ := h12 (hall 12 (by decide))
      simp only [List.take_succ_cons, List.take_zero, List.drop_succ_cons, List.drop_zero, putAll, Nat.zero_add, Nat.reduceAdd, v0, v1, v2, v3, v4, v5, v6, v7, v8, v9, v10, v11, v12, Act.put, List.setIfInBounds_toArray, List.set_cons_zero, List.set_cons_succ]
      clear h0 h1 h2 h4 h5 h6 h7 h8 h9 h10 h11 v0 v1 v2 v3 v4 v5 v6 v7 v8 v9 v10 v11 v12 hall
      have HG12 := Lib.hid hg12
      have HC12 := Lib.hid hc12
      have HB5 := Lib.hid hb
      have HNE := Lib.hid (show w.heap.size ≠ g12 from by have h1 := HX2.out.lt; omega)
      clear HI0 HI1 HI2 HAL HBD HDZ hg12 hc12 hb hR HD0 HD1 HD2
      refine wpList_store_cells rfl 28 (.tmp 6) (.tmp 31) rfl rfl g12 _ (draftV d0) 28 rfl rfl HC12.out HSD.out HSZ.out (draftV_all d0) ?_
      intro w5 hc hb
      have HV := Lib.hid hc.out
      have HX5 := Lib.hid ((HX2.out.below HB5.out).but hb.out HNE.out)
      have HBW := Lib.hid (HB2.out.trans ((But.toBelow HB5.out hb.out HG12.out HB5.out.size).mono HB2.out.size))
      have HGL := Lib.hid (show g < w5.heap.size from Nat.lt_of_lt_of_le HG3.out (Nat.le_trans HB5.out.size hb.out.size))
      have HGN := Lib.hid (show g ≠ g12 from by have h1 := HG3.out; have h2 := HG12.out; omega)
      have HE3 := Lib.hid (show w5.cell? ⟨g, og + 3, none⟩ = some (.string ⟨r.toArray⟩) from (World.cell?_of_block (w := wq) (a := ⟨g, og + 3, none⟩) (hb.out.block g (Nat.lt_of_lt_of_le HG3.out HB5.out.size) HGN.out)).trans ((HB5.out.cell (p := ⟨g, og + 3, none⟩) HG3.out).trans HD3.out))
      have HWG := Lib.hid (show w2.heap.size ≤ g12 from HG12.out)
      clear hc hb HC12 HB5 HX2 HSZ HD3 HG3 HG12
      obtain ⟨d, hd⟩ : ∃ d : DraftN, d = ⟨(x : Int), key, val, refP r⟩ := ⟨_, rfl⟩
      have HDE := Shut.mk hd
      have hok : IdOk d.ref := by rw [hd]; exact refP_ok r
      have HOK := Lib.hid hok
      have HSE := Lib.hid (show (Try.prog.info? 28).map (·.size) = some (draftV d).size by rw [draftV_size hok.1]; exact Try.sizeD)
      have HSY := Lib.hid (show (draftV zeroD).size = (draftV d).size by rw [draftV_size hok.1]; rfl)
      clear hd hok
      go_upto_region 5 with (fail)
      have HI3 := Lib.hid (show ∀ w, (Instr.indexAt 61 (.slice (some ⟨g, og, none⟩) 4 cq) (.int .i64 3)).run Try.prog w = .ok (.pointer (some ⟨g, og + 3, none⟩)) w from fun w => by go_simp)
      have HQ3 := Lib.hid (fun (w' : World) (q : Below w5.heap.size w5 w') => (q.cell (p := ⟨g, og + 3, none⟩) HGL.out).trans HE3.out)
      refine wp_region_class_tail (fun w' => Below w5.heap.size w5 w') 5 (by kernel_rfl) (by kernel_rfl) (Below.refl _ _).drew ?_
      simp only [List.take_succ_cons, List.take_zero, List.drop_succ_cons, List.drop_zero]
      repeat (first
        | (go_big_quiet_want; refine quiet_load_cell 9 _ rfl ⟨g, og + 3, none⟩ _ rfl HQ3.out Try.isAgg9 ?_; go_big_quiet_on; simp only [Act.put, List.setIfInBounds_toArray, List.set_cons_zero, List.set_cons_succ])
        | go_big_quiet_step ((intro hs'; rfl)))
      refine wpQuiet_nil ?_
      intro w6 hs6
      have hv6 := HV.out.below hs6
      have HX6 := Lib.hid (HX5.out.below hs6)
      have HB6 := Lib.hid (HBW.out.trans (hs6.mono HBW.out.size))
      clear hs6 HX5 HBW HI3 HQ3 HE3
      refine wpList_copy_text rfl (.tmp 33) (.tmp 36) 53 9 rfl 5 Try.underlying53 (by kernel_rfl) g12 3 32 32 r rfl rfl (fun j hj => by
        rw [hv6.at, Array.getElem?_eq_getElem (by rw [draftV_size HDR.out]; omega)]
        rfl) (fun j _ => hv6.frozen _) ?_
      have hl6 := Cells.lay (nums .u8 (byteNs (r.take 32))) (draftL d0) 3 w6 hv6
      rw [show layV (draftL d0) 3 (nums .u8 (byteNs (r.take 32))) = draftL d by rw [HDD.out, HDE.out]; exact draft_lay _ _ _ _] at hl6
      have hbt := But.cells (nums .u8 (byteNs (r.take 32))) 3 w6 (But.refl g12 w6)
      obtain ⟨w7, hw7⟩ : ∃ x, x = w6.setCells g12 3 (nums .u8 (byteNs (r.take 32))) := ⟨_, rfl⟩
      rw [← hw7] at hl6 hbt ⊢
      have HV7 := Lib.hid (show Cells g12 28 (draftV d) w7 from hl6)
      have HX7 := Lib.hid (HX6.out.but hbt HNE.out)
      have HB7 := Lib.hid (But.toBelow HB6.out hbt (Nat.le_trans HB2.out.size HWG.out) HB6.out.size)
      clear hw7 hl6 hbt hv6 HX6 HB6 HV
      simp only [Act.put, List.setIfInBounds_toArray, List.set_cons_zero, List.set_cons_succ]
      have HR0 := Shut.mk (show readD s = if GoodD d ∧ draftB d = s then some d else none by
        have h := readD_dev HL.out
        rw [devD, HXN.out, ← HDE.out] at h
        exact h)
      have hkd : d.key.length ≤ 262144 := by rw [HDE.out]; exact HLR.out key (by simp)
      have hvd : d.val.length ≤ 262144 := by rw [HDE.out]; exact HLR.out val (by simp)
      have HGD := Lib.hid (fun w' => dev_goodDraft d HOK.out (by omega) (by omega) w')
      clear hkd hvd HL HDD HDE HXN HLR HKL HDR HSD
      obtain ⟨z, hz⟩ : ∃ z, decide (GoodD d) = z := ⟨_, rfl⟩
      have HZ := Shut.mk hz
      rw [hz] at HGD
      clear hz
      go_upto_region 6 with (fail)
      go_wp2_with (refine wpList_load_cells rfl 28 _ rfl g12 (draftV d) 28 _ rfl HV7.out Try.underlying28 rfl HSE.out ?_)
      refine (HGD.out w7).mono ?_
      rintro e w8 ⟨rfl, hb⟩
      have HV8 := Lib.hid (HV7.out.below hb)
      have HX8 := Lib.hid (HX7.out.below hb)
      have HB8 := Lib.hid (HB7.out.trans (hb.mono HB7.out.size))
      clear hb HV7 HX7 HB7 HGD
      cases z with
      | false =>
        have HR := Shut.mk (HR0.out.trans (if_neg (fun h => of_decide_eq_false HZ.out h.1)))
        clear HV8
        go_upto_region 7 with (fail)
        refine wp_region_lit ?_
        refine wpList_build_val rfl 28 #[] rfl [] _ (by simp) built_draft0 ?_
        simp only [Act.put, List.setIfInBounds_toArray, List.set_cons_zero, List.set_cons_succ]
        refine wpList_store_cells rfl 28 _ _ rfl rfl w.heap.size (draftV zeroD) (draftV zeroD) 28 rfl rfl HX8.out HS.out rfl (draftV_all zeroD) ?_
        intro wf hc hb
        have HXF := Lib.hid hc.out
        have HBF := Lib.hid (show Below w.heap.size w wf from But.toBelow HB8.out hb.out (Nat.le_refl _) HB8.out.size)
        clear hc hb HX8 HB8
        go_wp2_with fail
        refine bodyPost_ret (results_cells_tmp rfl _ _ w.heap.size (draftV zeroD) 28 _ _ rfl rfl HXF.out Try.underlying28 rfl HS.out) rfl ?_
        exact ⟨by rw [HR.out]; rfl, HBF.out⟩
      | true =>
        have hgd := of_decide_eq_true HZ.out
        have HTX := Lib.hid (fun w' => dev_draftText d (hgd.fit HOK.out) w')
        obtain ⟨T, hT⟩ : ∃ T, draftB d = T := ⟨_, rfl⟩
        rw [hT] at HTX
        by_cases hts : T = s
        · have HR := Shut.mk (HR0.out.trans (if_pos ⟨hgd, hT.trans hts⟩))
          have heq : (T == s) = true := by simp [hts]
          clear hgd hT hts
          go_wp2_with (refine wpList_load_cells_want (by rfl) 28 _ rfl g12 (draftV d) 28 _ rfl HV8.out Try.underlying28 rfl HSE.out ?_)
          refine (HTX.out w8).mono ?_
          rintro e w9 ⟨rfl, hb⟩
          have HV9 := Lib.hid (HV8.out.below hb)
          have HX9 := Lib.hid (HX8.out.below hb)
          have HB9 := Lib.hid (HB8.out.trans (hb.mono HB8.out.size))
          clear hb HV8 HX8 HB8 HTX
          go_upto_region 8 with (fail)
          refine wp_region_lit ?_
          refine wpList_load_cells rfl 28 _ rfl g12 (draftV d) 28 _ rfl HV9.out Try.underlying28 rfl HSE.out ?_
          simp only [Act.put, List.setIfInBounds_toArray, List.set_cons_zero, List.set_cons_succ]
          refine wpList_store_cells rfl 28 _ _ rfl rfl w.heap.size (draftV zeroD) (draftV d) 28 rfl rfl HX9.out HSE.out HSY.out (draftV_all d) ?_
          intro w10 hc hb
          have HX10 := Lib.hid hc.out
          have HB10 := Lib.hid (show Below w.heap.size w w10 from But.toBelow HB9.out hb.out (Nat.le_refl _) HB9.out.size)
          clear hc hb HX9 HB9
          go_wp2_with fail
          refine bodyPost_ret (results_cells_tmp rfl _ _ w.heap.size (draftV d) 28 _ _ rfl rfl HX10.out Try.underlying28 rfl HSE.out) rfl ?_
          exact ⟨by rw [HR.out]; rfl, HB10.out⟩
        · have HR := Shut.mk (HR0.out.trans (if_neg (fun h => hts (hT.symm.trans h.2))))
          have heq : (T == s) = false := by simp [hts]
          clear hgd hT hts
          go_wp2_with (refine wpList_load_cells_want (by rfl) 28 _ rfl g12 (draftV d) 28 _ rfl HV8.out Try.underlying28 rfl HSE.out ?_)
          refine (HTX.out w8).mono ?_
          rintro e w9 ⟨rfl, hb⟩
          have HXA := Lib.hid (HX8.out.below hb)
          have HBA := Lib.hid (HB8.out.trans (hb.mono HB8.out.size))
          clear hb HV8 HX8 HB8 HTX
          go_upto_region 7 with (fail)
          refine wp_region_lit ?_
          refine wpList_build_val rfl 28 #[] rfl [] _ (by simp) built_draft0 ?_
          simp only [Act.put, List.setIfInBounds_toArray, List.set_cons_zero, List.set_cons_succ]
          refine wpList_store_cells rfl 28 _ _ rfl rfl w.heap.size (draftV zeroD) (draftV zeroD) 28 rfl rfl HXA.out HS.out rfl (draftV_all zeroD) ?_
          intro wf hc hb
          have HXF := Lib.hid hc.out
          have HBF := Lib.hid (show Below w.heap.size w wf from But.toBelow HBA.out hb.out (Nat.le_refl _) HBA.out.size)
          clear hc hb HXA HBA
          go_wp2_with fail
          refine bodyPost_ret (results_cells_tmp rfl _ _ w.heap.size (draftV zeroD) 28 _ _ rfl rfl HXF.out Try.underlying28 rfl HS.out) rfl ?_
          exact ⟨by rw [HR.out]; rfl, HBF.out⟩
    · have hn4 : ((n : Int) != 4) = true := by simp; omega
      have HR := Shut.mk (readD_parts4 (s := s) (by intro a b c d h; rw [HL.out] at h; simp only [Option.some.injEq] at h; subst h; exact h4 (by rw [← hn]; rfl)))
      rw [hn]
      clear HSA hn
      go_upto_region 3 with (fail)
      refine wp_region_lit ?_
      refine wpList_build_val rfl 28 #[] rfl [] _ (by simp) built_draft0 ?_
      simp only [Act.put, List.setIfInBounds_toArray, List.set_cons_zero, List.set_cons_succ]
      refine wpList_store_cells rfl 28 _ _ rfl rfl w.heap.size (draftV zeroD) (draftV zeroD) 28 rfl rfl HX2.out HS.out rfl (draftV_all zeroD) ?_
      intro wf hc hb
      have HXF := Lib.hid hc.out
      have HBF := Lib.hid (show Below w.heap.size w wf from But.toBelow HB2.out hb.out (Nat.le_refl _) HB2.out.size)
      clear hc hb HX2 HB2
      go_wp2_with fail
      refine bodyPost_ret (results_cells_tmp rfl _ _ w.heap.size (draftV zeroD) 28 _ _ rfl rfl HXF.out Try.underlying28 rfl HS.out) rfl ?_
      exact ⟨by rw [HR.out]; rfl, HBF.out⟩
end Go.Proofs.Ytenmkfjgjemiiaa
namespace Go.Proofs.Ytenmkfjgjemiiaa
open Go.RowKit Go.BigFrame
theorem strsGD {ao : Option Addr} {l : List (List UInt8)} {w : World} (h : StrsAt ao l w) (h0 : l ≠ []) : ∃ g o, ao = some ⟨g, o, none⟩ ∧ g < w.heap.size ∧ ∀ i (hi : i < l.length), w.cell? ⟨g, o + i, none⟩ = some (.string ⟨l[i].toArray⟩) := by
  rcases h with h | ⟨b, o, ha, hb, hc⟩
  · exact absurd h h0
  · exact ⟨b, o, ha, hb, hc⟩
def recvE (f n m : Nat) (r : List Nat) (p y : List UInt8) : EntN := ⟨2, noD, f, n, r, m, p, y⟩
theorem recvE_ok (f n m : Nat) {r : List Nat} (p y : List UInt8) (hr : IdOk r) : (recvE f n m r p y).Ok := ⟨zeroI_ok, hr⟩
theorem built_recv (f n m : Nat) (p y : List UInt8) : Try.prog.built 30 [(0, .int .i64 2), (2, .int .i64 (f : Int)), (3, .int .i64 (n : Int)), (5, .int .i64 (m : Int)), (6, .string ⟨p.toArray⟩), (7, .string ⟨y.toArray⟩)] = some (entV (recvE f n m zeroI p y)) := by
  rw [ent_fill, fill_kind, fill_src _ _ ⟨zeroI_ok, zeroI_ok⟩, fill_seq _ _ ⟨zeroI_ok, zeroI_ok⟩, fill_mask _ _ ⟨zeroI_ok, zeroI_ok⟩, fill_pay _ _ ⟨zeroI_ok, zeroI_ok⟩, fill_sig _ _ ⟨zeroI_ok, zeroI_ok⟩, fill_end]
  rfl
theorem prev_lay (f n m : Nat) (p y r : List UInt8) : layV (entL (recvE f n m zeroI p y)) 38 (nums .u8 (byteNs (r.take 32))) = entL (recvE f n m (refP r) p y) := by
  have hz : nums .u8 zeroI = nums .u8 (zeroI.take r.length) ++ nums .u8 (zeroI.drop r.length) := by rw [nums, nums, nums, ← List.map_append, List.take_append_drop]
  have h := layV_mid (nums .u8 (byteNs (r.take 32))) ([.int .i64 2] ++ (draftL noD ++ [.int .i64 (f : Int), .int .i64 (n : Int)])) (nums .u8 (zeroI.take r.length)) (nums .u8 (zeroI.drop r.length) ++ [.int .i64 (m : Int), .string ⟨p.toArray⟩, .string ⟨y.toArray⟩])
    (by rw [nums_len, nums_len, byteNs_len, List.length_take, List.length_take, zeroI_ok.1]; omega)
  rw [show ([.int .i64 2] ++ (draftL noD ++ [.int .i64 (f : Int), .int .i64 (n : Int)]) : List Value).length = 38 by simp [show (draftL noD).length = 35 from draftL_len (d := noD) zeroI_ok.1]] at h
  rw [show entL (recvE f n m zeroI p y) = ([.int .i64 2] ++ (draftL noD ++ [.int .i64 (f : Int), .int .i64 (n : Int)])) ++ (nums .u8 (zeroI.take r.length) ++ (nums .u8 (zeroI.drop r.length) ++ [.int .i64 (m : Int), .string ⟨p.toArray⟩, .string ⟨y.toArray⟩])) by
    rw [← List.append_assoc (nums .u8 (zeroI.take r.length)), ← hz]
    simp [entL, entT, recvE], h]
  have hr : nums .u8 (refP r) = nums .u8 (byteNs (r.take 32)) ++ nums .u8 (zeroI.drop r.length) := by rw [nums, nums, nums, ← List.map_append]; rfl
  simp [entL, entT, recvE, hr]
set_option maxHeartbeats 4000000 in
set_option maxRecDepth 100000 in
theorem dev_num15 (s : List UInt8) (w : World) (hs : s.length ≤ 262144) :
    Calls Try.prog 49 #[.string ⟨s.toArray⟩] w fun e w' => e = .returned (.int .i64 (openN s : Int)) ∧ Below w.heap.size w w' := by
  have HO := Lib.hid (open_ok s w hs)
  clear hs
  go_enter Try.func49, Try.ntmps49
  go_wp2_with fail
  refine HO.out.mono ?_
  rintro e w1 ⟨rfl, hr, hb⟩
  have HR := Lib.hid hr
  have HB := Lib.hid hb
  clear hr hb HO
  go_wp2_with fail
  refine (rnum_any _ s false w1 HR.out (fun h => by cases h)).mono ?_
  rintro e w2 ⟨rfl, -, hb2⟩
  have HB2 := Lib.hid (hb2.toBelow HB.out (Nat.le_refl _) HB.out.size)
  clear hb2 HR HB
  go_wp2_with fail
  go_ret
  exact ⟨rfl, HB2.out⟩
set_option maxHeartbeats 4000000 in
set_option maxRecDepth 100000 in
theorem dev_received15 (ao : Option Addr) (k f n r m p y : List UInt8) (cq : Nat) (w : World) (hp : StrsAt ao [k, f, n, r, m, p, y] w) (hl : ∀ t ∈ [k, f, n, r, m, p, y], t.length ≤ 262144) :
    Calls Try.prog 51 #[.slice ao 7 cq] w fun e w' => e = .returned (.agg (entV (recvE (openN f) (openN n) (openN m) (refP r) p y))) ∧ Below w.heap.size w w' := by
  obtain ⟨g, og, rfl, hg, hc⟩ := strsGD hp (by simp)
  have HZE := Lib.hid (show (Try.prog.info? 30).bind (·.zero) = some (.agg (entL noE).toArray) by kernel_rfl)
  have HG := Lib.hid hg
  have c1 := hc 1 (by simp)
  have c2 := hc 2 (by simp)
  have c3 := hc 3 (by simp)
  have c4 := hc 4 (by simp)
  have c5 := hc 5 (by simp)
  have c6 := hc 6 (by simp)
  simp only [List.getElem_cons_succ, List.getElem_cons_zero] at c1 c2 c3 c4 c5 c6
  have hx : Cells w.heap.size 30 (entV noE) (w.alloc (.cells (entV noE) 30)) := heap_alloc_new w _
  have hb : Below w.heap.size w (w.alloc (.cells (entV noE) 30)) := (Below.refl _ _).alloc (Nat.le_refl _) _
  have HNF0 := fun w' => dev_num15 f w' (hl f (by simp))
  have HNN0 := fun w' => dev_num15 n w' (hl n (by simp))
  have HNM0 := fun w' => dev_num15 m w' (hl m (by simp))
  obtain ⟨xf, hxf⟩ : ∃ x, openN f = x := ⟨_, rfl⟩
  obtain ⟨xn, hxn⟩ : ∃ x, openN n = x := ⟨_, rfl⟩
  obtain ⟨xm, hxm⟩ : ∃ x, openN m = x := ⟨_, rfl⟩
  rw [hxf] at HNF0 ⊢
  rw [hxn] at HNN0 ⊢
  rw [hxm] at HNM0 ⊢
  have HNF := Lib.hid HNF0
  have HNN := Lib.hid HNN0
  have HNM := Lib.hid HNM0
  clear hp hl hc hxf hxn hxm HNF0 HNN0 HNM0
  go_enter Try.func51, Try.ntmps51
  go_upto_region 1 with (first | (refine wpList_alloc_of rfl 30 rfl (entL noE) HZE.out ?_))
  change Code.wp _ _ _ _ (w.alloc (.cells (entV noE) 30))
  obtain ⟨w1, hw1⟩ : ∃ x, x = w.alloc (.cells (entV noE) 30) := ⟨_, rfl⟩
  rw [← hw1] at hx hb ⊢
  have HX := Lib.hid hx
  have HB := Lib.hid hb
  have HC1 := Lib.hid (fun (w' : World) (b : Below w1.heap.size w1 w') => (b.cell (p := ⟨g, og + 1, none⟩) (Nat.lt_of_lt_of_le hg hb.size)).trans ((hb.cell (p := ⟨g, og + 1, none⟩) hg).trans c1))
  have HC2 := Lib.hid (fun (w' : World) (b : Below w1.heap.size w1 w') => (b.cell (p := ⟨g, og + 2, none⟩) (Nat.lt_of_lt_of_le hg hb.size)).trans ((hb.cell (p := ⟨g, og + 2, none⟩) hg).trans c2))
  have HC3 := Lib.hid (fun (w' : World) (b : Below w1.heap.size w1 w') => (b.cell (p := ⟨g, og + 3, none⟩) (Nat.lt_of_lt_of_le hg hb.size)).trans ((hb.cell (p := ⟨g, og + 3, none⟩) hg).trans c3))
  have HC4 := Lib.hid (fun (w' : World) (b : Below w1.heap.size w1 w') => (b.cell (p := ⟨g, og + 4, none⟩) (Nat.lt_of_lt_of_le hg hb.size)).trans ((hb.cell (p := ⟨g, og + 4, none⟩) hg).trans c4))
  have HC5 := Lib.hid (fun (w' : World) (b : Below w1.heap.size w1 w') => (b.cell (p := ⟨g, og + 5, none⟩) (Nat.lt_of_lt_of_le hg hb.size)).trans ((hb.cell (p := ⟨g, og + 5, none⟩) hg).trans c5))
  have HC6 := Lib.hid (fun (w' : World) (b : Below w1.heap.size w1 w') => (b.cell (p := ⟨g, og + 6, none⟩) (Nat.lt_of_lt_of_le hg hb.size)).trans ((hb.cell (p := ⟨g, og + 6, none⟩) hg).trans c6))
  have HGW := Lib.hid (Nat.lt_of_lt_of_le hg hb.size)
  clear hw1 hx hb hg c1 c2 c3 c4 c5 c6
  have HI1 := Lib.hid (show ∀ w, (Instr.indexAt 61 (.slice (some ⟨g, og, none⟩) 7 cq) (.int .i64 1)).run Try.prog w = .ok (.pointer (some ⟨g, og + 1, none⟩)) w from fun w => by go_simp)
  have HI2 := Lib.hid (show ∀ w, (Instr.indexAt 61 (.slice (some ⟨g, og, none⟩) 7 cq) (.int .i64 2)).run Try.prog w = .ok (.pointer (some ⟨g, og + 2, none⟩)) w from fun w => by go_simp)
  have HI3 := Lib.hid (show ∀ w, (Instr.indexAt 61 (.slice (some ⟨g, og, none⟩) 7 cq) (.int .i64 3)).run Try.prog w = .ok (.pointer (some ⟨g, og + 3, none⟩)) w from fun w => by go_simp)
  have HI4 := Lib.hid (show ∀ w, (Instr.indexAt 61 (.slice (some ⟨g, og, none⟩) 7 cq) (.int .i64 4)).run Try.prog w = .ok (.pointer (some ⟨g, og + 4, none⟩)) w from fun w => by go_simp)
  have HI5 := Lib.hid (show ∀ w, (Instr.indexAt 61 (.slice (some ⟨g, og, none⟩) 7 cq) (.int .i64 5)).run Try.prog w = .ok (.pointer (some ⟨g, og + 5, none⟩)) w from fun w => by go_simp)
  have HI6 := Lib.hid (show ∀ w, (Instr.indexAt 61 (.slice (some ⟨g, og, none⟩) 7 cq) (.int .i64 6)).run Try.prog w = .ok (.pointer (some ⟨g, og + 6, none⟩)) w from fun w => by go_simp)
  have HAL := Lib.hid (show ∀ w : World, (Instr.alloc 30 true (.tuple #[])).run Try.prog w = .ok (.pointer (some ⟨w.heap.size, 0, none⟩)) (w.alloc (.cells (entV noE) 30)) from fun w => by kernel_rfl)
  obtain ⟨d0, hd0⟩ : ∃ d, d = recvE xf xn xm zeroI p y := ⟨_, rfl⟩
  have HDD := Shut.mk hd0
  have HO0 := Lib.hid (show d0.Ok by rw [hd0]; exact recvE_ok _ _ _ _ _ zeroI_ok)
  have HBD := Lib.hid (show ∀ w, (Instr.build 30 ([(0, .int .i64 2), (2, .int .i64 (xf : Int)), (3, .int .i64 (xn : Int)), (5, .int .i64 (xm : Int)), (6, .string ⟨p.toArray⟩), (7, .string ⟨y.toArray⟩)] : List (Nat × Value)).toArray).run Try.prog w = .ok (.agg (entV d0)) w from fun w => by
    have hb := built_recv xf xn xm p y
    rw [← HDD.out] at hb
    exact run_build w 30 _ _ hb)
  have HDZ := Lib.hid (show Below w1.heap.size w1 w1.drew from (Below.refl _ _).drew)
  have HSD := Lib.hid (sizeEV HO0.out)
  have HSZ := Lib.hid (show (entV noE).size = (entV d0).size by rw [entV_size HO0.out]; rfl)
  clear hd0
  refine wp_region_free 20 (fun q V w' => Vals q V [(0, .slice (some ⟨g, og, none⟩) 7 cq), (1, .pointer (some ⟨g, og + 1, none⟩)), (2, .string ⟨f.toArray⟩), (3, .int .i64 (xf : Int)), (4, .slice (some ⟨g, og, none⟩) 7 cq), (5, .pointer (some ⟨g, og + 2, none⟩)), (6, .string ⟨n.toArray⟩), (7, .int .i64 (xn : Int)), (8, .slice (some ⟨g, og, none⟩) 7 cq), (9, .pointer (some ⟨g, og + 4, none⟩)), (10, .string ⟨m.toArray⟩), (11, .int .i64 (xm : Int)), (12, .slice (some ⟨g, og, none⟩) 7 cq), (13, .pointer (some ⟨g, og + 5, none⟩)), (14, .string ⟨p.toArray⟩), (15, .slice (some ⟨g, og, none⟩) 7 cq), (16, .pointer (some ⟨g, og + 6, none⟩)), (17, .string ⟨y.toArray⟩), (18, .agg (entV d0))] ∧ NewC q V w1.heap.size 19 30 (entV noE) w' ∧ Below w1.heap.size w1 w') (fun _ => undef) (by kernel_rfl) (by kernel_rfl) (by kernel_rfl) (by simp only [List.take_succ_cons, List.take_zero, putAll, Act.put, List.setIfInBounds_toArray, List.set_cons_zero, List.set_cons_succ]) ⟨Vals.none, NewC.none, HDZ.out⟩ ?_ ?_
  · simp only [List.take_succ_cons, List.take_zero, putAll, Nat.zero_add, Nat.reduceAdd, Act.put, List.setIfInBounds_toArray, List.set_cons_zero, List.set_cons_succ]
    refine FreeSteps.cons ?_ (FreeSteps.cons ?_ (FreeSteps.cons ?_ (FreeSteps.cons ?_ (FreeSteps.cons ?_ (FreeSteps.cons ?_ (FreeSteps.cons ?_ (FreeSteps.cons ?_ (FreeSteps.cons ?_ (FreeSteps.cons ?_ (FreeSteps.cons ?_ (FreeSteps.cons ?_ (FreeSteps.cons ?_ (FreeSteps.cons ?_ (FreeSteps.cons ?_ (FreeSteps.cons ?_ (FreeSteps.cons ?_ (FreeSteps.cons ?_ (FreeSteps.cons ?_ (FreeSteps.cons ?_ (FreeSteps.nil))))))))))))))))))))
    all_goals (refine FreeStep.fresh rfl ?_; rintro q V wq hr hu ⟨hVs, h19, hb⟩ K hK)
    · exact op_move (.tmp 0) rfl _ rfl (hK _ _ ⟨hVs.set rfl, h19.ne (by decide) (Below.refl _ _), hb⟩)
    · exact op_indexAt 61 (.tmp 4) (.const (.int .i64 1)) rfl _ _ _ (hVs.get 0 (hr { on := 0, ground := .data } (by simp) rfl) rfl) rfl HI1.out (hK _ _ ⟨hVs.set rfl, h19.ne (by decide) (Below.refl _ _), hb⟩)
    · exact op_load_cell 9 (.tmp 5) rfl _ _ (hVs.get 1 (hr { on := 1, ground := .data } (by simp) rfl) rfl) (HC1.out wq hb) Try.isAgg9 (hK _ _ ⟨hVs.set rfl, h19.ne (by decide) (Below.refl _ _), hb⟩)
    · refine op_call Try.func49 rfl rfl rfl [.string ⟨f.toArray⟩] ((congrArg (fun x => [x]) (hVs.get 2 (hr { on := 2, ground := .data } (by simp) rfl) rfl))) (HNF.out wq) ?_
      rintro e w' ⟨rfl, hb'⟩
      exact ⟨_, rfl, (hK _ _ ⟨hVs.set rfl, h19.ne (by decide) hb', hb.trans (hb'.mono hb.size)⟩)⟩
    · exact op_move (.tmp 0) rfl _ rfl (hK _ _ ⟨hVs.set rfl, h19.ne (by decide) (Below.refl _ _), hb⟩)
    · exact op_indexAt 61 (.tmp 8) (.const (.int .i64 2)) rfl _ _ _ (hVs.get 4 (hr { on := 4, ground := .data } (by simp) rfl) rfl) rfl HI2.out (hK _ _ ⟨hVs.set rfl, h19.ne (by decide) (Below.refl _ _), hb⟩)
    · exact op_load_cell 9 (.tmp 9) rfl _ _ (hVs.get 5 (hr { on := 5, ground := .data } (by simp) rfl) rfl) (HC2.out wq hb) Try.isAgg9 (hK _ _ ⟨hVs.set rfl, h19.ne (by decide) (Below.refl _ _), hb⟩)
    · refine op_call Try.func49 rfl rfl rfl [.string ⟨n.toArray⟩] ((congrArg (fun x => [x]) (hVs.get 6 (hr { on := 6, ground := .data } (by simp) rfl) rfl))) (HNN.out wq) ?_
      rintro e w' ⟨rfl, hb'⟩
      exact ⟨_, rfl, (hK _ _ ⟨hVs.set rfl, h19.ne (by decide) hb', hb.trans (hb'.mono hb.size)⟩)⟩
    · exact op_move (.tmp 0) rfl _ rfl (hK _ _ ⟨hVs.set rfl, h19.ne (by decide) (Below.refl _ _), hb⟩)
    · exact op_indexAt 61 (.tmp 12) (.const (.int .i64 4)) rfl _ _ _ (hVs.get 8 (hr { on := 8, ground := .data } (by simp) rfl) rfl) rfl HI4.out (hK _ _ ⟨hVs.set rfl, h19.ne (by decide) (Below.refl _ _), hb⟩)
    · exact op_load_cell 9 (.tmp 13) rfl _ _ (hVs.get 9 (hr { on := 9, ground := .data } (by simp) rfl) rfl) (HC4.out wq hb) Try.isAgg9 (hK _ _ ⟨hVs.set rfl, h19.ne (by decide) (Below.refl _ _), hb⟩)
    · refine op_call Try.func49 rfl rfl rfl [.string ⟨m.toArray⟩] ((congrArg (fun x => [x]) (hVs.get 10 (hr { on := 10, ground := .data } (by simp) rfl) rfl))) (HNM.out wq) ?_
      rintro e w' ⟨rfl, hb'⟩
      exact ⟨_, rfl, (hK _ _ ⟨hVs.set rfl, h19.ne (by decide) hb', hb.trans (hb'.mono hb.size)⟩)⟩
    · exact op_move (.tmp 0) rfl _ rfl (hK _ _ ⟨hVs.set rfl, h19.ne (by decide) (Below.refl _ _), hb⟩)
    · exact op_indexAt 61 (.tmp 16) (.const (.int .i64 5)) rfl _ _ _ (hVs.get 12 (hr { on := 12, ground := .data } (by simp) rfl) rfl) rfl HI5.out (hK _ _ ⟨hVs.set rfl, h19.ne (by decide) (Below.refl _ _), hb⟩)
    · exact op_load_cell 9 (.tmp 17) rfl _ _ (hVs.get 13 (hr { on := 13, ground := .data } (by simp) rfl) rfl) (HC5.out wq hb) Try.isAgg9 (hK _ _ ⟨hVs.set rfl, h19.ne (by decide) (Below.refl _ _), hb⟩)
    · exact op_move (.tmp 0) rfl _ rfl (hK _ _ ⟨hVs.set rfl, h19.ne (by decide) (Below.refl _ _), hb⟩)
    · exact op_indexAt 61 (.tmp 19) (.const (.int .i64 6)) rfl _ _ _ (hVs.get 15 (hr { on := 15, ground := .data } (by simp) rfl) rfl) rfl HI6.out (hK _ _ ⟨hVs.set rfl, h19.ne (by decide) (Below.refl _ _), hb⟩)
    · exact op_load_cell 9 (.tmp 20) rfl _ _ (hVs.get 16 (hr { on := 16, ground := .data } (by simp) rfl) rfl) (HC6.out wq hb) Try.isAgg9 (hK _ _ ⟨hVs.set rfl, h19.ne (by decide) (Below.refl _ _), hb⟩)
    · exact op_build 30 #[(0, .const (.int .i64 2)), (2, .tmp 7), (3, .tmp 11), (5, .tmp 15), (6, .tmp 18), (7, .tmp 21)] rfl [(0, .int .i64 2), (2, .int .i64 (xf : Int)), (3, .int .i64 (xn : Int)), (5, .int .i64 (xm : Int)), (6, .string ⟨p.toArray⟩), (7, .string ⟨y.toArray⟩)] (entV d0) (by
          have v3 := (hVs.get 3 (hr { on := 3, ground := .data } (by simp) rfl) rfl)
          have v7 := (hVs.get 7 (hr { on := 7, ground := .data } (by simp) rfl) rfl)
          have v11 := (hVs.get 11 (hr { on := 11, ground := .data } (by simp) rfl) rfl)
          have v14 := (hVs.get 14 (hr { on := 14, ground := .data } (by simp) rfl) rfl)
          have v17 := (hVs.get 17 (hr { on := 17, ground := .data } (by simp) rfl) rfl)
          rw [List.map_toArray]
          show [((0 : Nat), Value.int .i64 2), (2, V 3), (3, V 7), (5, V 11), (6, V 14), (7, V 17)].toArray = _
          rw [v3, v7, v11, v14, v17]) HBD.out (hK _ _ ⟨hVs.set rfl, h19.ne (by decide) (Below.refl _ _), hb⟩)
    · exact op_alloc 30 rfl (entV noE) HAL.out (hK _ _ ⟨hVs.off rfl, .same hb.size, hb.alloc hb.size _⟩)
  rintro q V wq hall ⟨hVs, h19, hb⟩
  have v0 := hVs.get 0 (hall 0 (by decide)) rfl
  have v1 := hVs.get 1 (hall 1 (by decide)) rfl
  have v2 := hVs.get 2 (hall 2 (by decide)) rfl
  have v3 := hVs.get 3 (hall 3 (by decide)) rfl
  have v4 := hVs.get 4 (hall 4 (by decide)) rfl
  have v5 := hVs.get 5 (hall 5 (by decide)) rfl
  have v6 := hVs.get 6 (hall 6 (by decide)) rfl
  have v7 := hVs.get 7 (hall 7 (by decide)) rfl
  have v8 := hVs.get 8 (hall 8 (by decide)) rfl
  have v9 := hVs.get 9 (hall 9 (by decide)) rfl
  have v10 := hVs.get 10 (hall 10 (by decide)) rfl
  have v11 := hVs.get 11 (hall 11 (by decide)) rfl
  have v12 := hVs.get 12 (hall 12 (by decide)) rfl
  have v13 := hVs.get 13 (hall 13 (by decide)) rfl
  have v14 := hVs.get 14 (hall 14 (by decide)) rfl
  have v15 := hVs.get 15 (hall 15 (by decide)) rfl
  have v16 := hVs.get 16 (hall 16 (by decide)) rfl
  have v17 := hVs.get 17 (hall 17 (by decide)) rfl
  have v18 := hVs.get 18 (hall 18 (by decide)) rfl
  obtain ⟨g19, v19, hg19, hc19⟩ := h19 (hall 19 (by decide))
  simp only [List.take_succ_cons, List.take_zero, List.drop_succ_cons, List.drop_zero, putAll, Nat.zero_add, Nat.reduceAdd, v0, v1, v2, v3, v4, v5, v6, v7, v8, v9, v10, v11, v12, v13, v14, v15, v16, v17, v18, v19, Act.put, List.setIfInBounds_toArray, List.set_cons_zero, List.set_cons_succ]
  clear hVs v0 v1 v2 v3 v4 v5 v6 v7 v8 v9 v10 v11 v12 v13 v14 v15 v16 v17 v18 v19 hall
  have HG12 := Lib.hid hg19
  have HC12 := Lib.hid hc19
  have HB5 := Lib.hid hb
  have HNE := Lib.hid (show w.heap.size ≠ g19 from by have h1 := HX.out.lt; omega)
  clear HI1 HI2 HI4 HI5 HI6 HAL HBD HDZ hg19 hc19 hb HC1 HC2 HC4 HC5 HC6 HNF HNN HNM
  refine wpList_store_cells rfl 30 (.tmp 3) (.tmp 22) rfl rfl g19 _ (entV d0) 30 rfl rfl HC12.out HSD.out HSZ.out (entV_all d0) ?_
  intro w5 hc hb
  have HV := Lib.hid hc.out
  have HX5 := Lib.hid ((HX.out.below HB5.out).but hb.out HNE.out)
  have HBW := Lib.hid (HB.out.trans ((But.toBelow HB5.out hb.out HG12.out HB5.out.size).mono HB.out.size))
  have HGL := Lib.hid (show g < w5.heap.size from Nat.lt_of_lt_of_le HGW.out (Nat.le_trans HB5.out.size hb.out.size))
  have HGN := Lib.hid (show g ≠ g19 from by have h1 := HGW.out; have h2 := HG12.out; omega)
  have HE3 := Lib.hid (show w5.cell? ⟨g, og + 3, none⟩ = some (.string ⟨r.toArray⟩) from (World.cell?_of_block (w := wq) (a := ⟨g, og + 3, none⟩) (hb.out.block g (Nat.lt_of_lt_of_le HGW.out HB5.out.size) HGN.out)).trans (HC3.out wq HB5.out))
  have HWG := Lib.hid (show w1.heap.size ≤ g19 from HG12.out)
  clear hc hb HC12 HB5 HX HSZ HC3 HG12
  obtain ⟨d, hd⟩ : ∃ d, d = recvE xf xn xm (refP r) p y := ⟨_, rfl⟩
  have HDE := Shut.mk hd
  have HOK := Lib.hid (show d.Ok by rw [hd]; exact recvE_ok _ _ _ _ _ (refP_ok r))
  have HSE := Lib.hid (sizeEV HOK.out)
  have HSY := Lib.hid (show (entV noE).size = (entV d).size by rw [entV_size HOK.out]; rfl)
  clear hd
  go_upto_region 2 with (fail)
  have HQ3 := Lib.hid (fun (w' : World) (b : Below w5.heap.size w5 w') => (b.cell (p := ⟨g, og + 3, none⟩) HGL.out).trans HE3.out)
  refine wp_region_class_tail (fun w' => Below w5.heap.size w5 w') 5 (by kernel_rfl) (by kernel_rfl) (Below.refl _ _).drew ?_
  simp only [List.take_succ_cons, List.take_zero, List.drop_succ_cons, List.drop_zero]
  repeat (first
    | (go_big_quiet_want; refine quiet_load_cell 9 _ rfl ⟨g, og + 3, none⟩ _ rfl HQ3.out Try.isAgg9 ?_; go_big_quiet_on; simp only [Act.put, List.setIfInBounds_toArray, List.set_cons_zero, List.set_cons_succ])
    | go_big_quiet_step ((intro hs'; rfl)))
  refine wpQuiet_nil ?_
  intro w6 hs6
  have hv6 := HV.out.below hs6
  have HX6 := Lib.hid (HX5.out.below hs6)
  have HB6 := Lib.hid (HBW.out.trans (hs6.mono HBW.out.size))
  clear hs6 HX5 HBW HI3 HQ3 HE3
  refine wpList_copy_text rfl (.tmp 24) (.tmp 27) 53 9 rfl 5 Try.underlying53 (by kernel_rfl) g19 38 32 32 r rfl rfl (fun j hj => by
    rw [hv6.at, Array.getElem?_eq_getElem (by rw [entV_size HO0.out]; omega)]
    rfl) (fun j _ => hv6.frozen _) ?_
  have hl6 := Cells.lay (nums .u8 (byteNs (r.take 32))) (entL d0) 38 w6 hv6
  rw [show layV (entL d0) 38 (nums .u8 (byteNs (r.take 32))) = entL d by rw [HDD.out, HDE.out]; exact prev_lay _ _ _ _ _ _] at hl6
  have hbt := But.cells (nums .u8 (byteNs (r.take 32))) 38 w6 (But.refl g19 w6)
  obtain ⟨w7, hw7⟩ : ∃ x, x = w6.setCells g19 38 (nums .u8 (byteNs (r.take 32))) := ⟨_, rfl⟩
  rw [← hw7] at hl6 hbt ⊢
  have HV7 := Lib.hid (show Cells g19 30 (entV d) w7 from hl6)
  have HX7 := Lib.hid (HX6.out.but hbt HNE.out)
  have HB7 := Lib.hid (But.toBelow HB6.out hbt (Nat.le_trans HB.out.size HWG.out) HB6.out.size)
  clear hw7 hl6 hbt hv6 HX6 HB6 HV
  simp only [Act.put, List.setIfInBounds_toArray, List.set_cons_zero, List.set_cons_succ]
  go_upto_region 3 with (fail)
  refine wp_region_lit ?_
  refine wpList_load_cells rfl 30 _ rfl g19 (entV d) 30 _ rfl HV7.out Try.underlying30 rfl HSE.out ?_
  simp only [Act.put, List.setIfInBounds_toArray, List.set_cons_zero, List.set_cons_succ]
  refine wpList_store_cells rfl 30 _ _ rfl rfl w.heap.size (entV noE) (entV d) 30 rfl rfl HX7.out HSE.out HSY.out (entV_all d) ?_
  intro w9 hc hb
  have HX9 := Lib.hid hc.out
  have HB9 := Lib.hid (show Below w.heap.size w w9 from But.toBelow HB7.out hb.out (Nat.le_refl _) HB7.out.size)
  clear hc hb HX7 HB7
  go_wp2_with fail
  refine bodyPost_ret (results_cells rfl _ _ w.heap.size (entV d) 30 _ rfl HX9.out Try.underlying30 rfl HSE.out) rfl ?_
  exact ⟨by rw [HDE.out], HB9.out⟩
end Go.Proofs.Ytenmkfjgjemiiaa
namespace Go.Proofs.Ytenmkfjgjemiiaa
open Go.RowKit Go.BigFrame
theorem devC_local {k t : List UInt8} (h : openN k = 1) : devC [k, t] = localE ((readD t).getD noD) := by simp only [devC]; rw [if_pos h]; rfl
theorem devC_send {k m p : List UInt8} (h : openN k = 3) : devC [k, m, p] = outE (openN m) p := by simp only [devC]; rw [if_pos h]; rfl
theorem devC_recv {k f n r m p y : List UInt8} (h : openN k = 2) : devC [k, f, n, r, m, p, y] = recvE (openN f) (openN n) (openN m) (refP r) p y := by simp only [devC]; rw [if_pos h]; rfl
theorem devC_else {k : List UInt8} {l : List (List UInt8)} (h1 : ¬ (openN k = 1 ∧ l.length = 1)) (h2 : ¬ (openN k = 2 ∧ l.length = 6)) (h3 : ¬ (openN k = 3 ∧ l.length = 2)) : devC (k :: l) = noE := by
  match l, h1, h2, h3 with
  | [], _, _, _ => rfl
  | [_], h1, _, _ => simp only [devC]; rw [if_neg (fun e => h1 ⟨e, rfl⟩)]
  | [_, _], _, _, h3 => simp only [devC]; rw [if_neg (fun e => h3 ⟨e, rfl⟩)]
  | [_, _, _], _, _, _ => rfl
  | [_, _, _, _], _, _, _ => rfl
  | [_, _, _, _, _], _, _, _ => rfl
  | [_, _, _, _, _, _], _, h2, _ => simp only [devC]; rw [if_neg (fun e => h2 ⟨e, rfl⟩)]
  | _ :: _ :: _ :: _ :: _ :: _ :: _ :: _, _, _, _ => rfl
set_option maxHeartbeats 4000000 in
set_option maxRecDepth 100000 in
theorem dev_parted15 (ao : Option Addr) (k : List UInt8) (l : List (List UInt8)) (cq : Nat) (w : World) (hp : StrsAt ao (k :: l) w) (hl : ∀ t ∈ k :: l, t.length ≤ 262144) (hn : l.length ≤ 1000000) :
    Calls Try.prog 36 #[.slice ao (k :: l).length cq] w fun e w' => e = .returned (.agg (entV (devC (k :: l)))) ∧ Below w.heap.size w w' := by
  obtain ⟨g, og, rfl, hg, hc⟩ := strsGD hp (by simp)
  have HP := Lib.hid hp
  have HLL := Lib.hid hl
  have HZE := Lib.hid (show (Try.prog.info? 30).bind (·.zero) = some (.agg (entL noE).toArray) by kernel_rfl)
  have hx : Cells w.heap.size 30 (entV noE) (w.alloc (.cells (entV noE) 30)) := heap_alloc_new w _
  have hb : Below w.heap.size w (w.alloc (.cells (entV noE) 30)) := (Below.refl _ _).alloc (Nat.le_refl _) _
  have HC := Lib.hid (fun (w' : World) (b : Below w.heap.size w w') (i : Nat) (hi : i < (k :: l).length) => (b.cell (p := ⟨g, og + i, none⟩) hg).trans (hc i hi))
  obtain ⟨n, hnn⟩ : ∃ n, (k :: l).length = n := ⟨_, rfl⟩
  have HN := Shut.mk (show l.length + 1 = n by rw [← hnn]; rfl)
  have HNM := Lib.hid (show n ≤ 1000001 by rw [← HN.out]; omega)
  rw [hnn]
  obtain ⟨x, hxk⟩ : ∃ x, openN k = x := ⟨_, rfl⟩
  have HXK := Shut.mk hxk
  have HN0 := Lib.hid (fun w' => dev_num15 k w' (hl k (by simp)))
  rw [hxk] at HN0
  have hb0 : (0 : Int) < (n : Int) := by have := HN.out; omega
  clear hp hl hc hnn hxk hn
  go_enter Try.func36, Try.ntmps36
  go_upto_region 1 with (first | (refine wpList_alloc_of rfl 30 rfl (entL noE) HZE.out ?_))
  change Code.wp _ _ _ _ (w.alloc (.cells (entV noE) 30))
  obtain ⟨w1, hw1⟩ : ∃ x, x = w.alloc (.cells (entV noE) 30) := ⟨_, rfl⟩
  rw [← hw1] at hx hb ⊢
  have HX := Lib.hid hx
  have HB := Lib.hid hb
  clear hw1 hx hb hg
  have cs0 := HC.out w1 HB.out 0 (by simp)
  simp only [List.getElem_cons_zero, Nat.add_zero] at cs0
  go_wp2_with fail
  refine (HN0.out w1).mono ?_
  rintro e w2 ⟨rfl, hb⟩
  have HXQ := Lib.hid (HX.out.below hb)
  have HBQ := Lib.hid (HB.out.trans (hb.mono HB.out.size))
  clear hb HX HB HN0 cs0 hb0
  by_cases x1 : x = 1
  · have g1 : ((x : Int) == 1) = true := by simp [x1]
    have g2 : ((x : Int) == 2) = false := by simp [x1]
    have g3 : ((x : Int) == 3) = false := by simp [x1]
    by_cases n1 : n = 2
    · have hni : ((n : Int) == 2) = true := by simp [n1]
      obtain ⟨t, rfl⟩ : ∃ t, l = [t] := by
        have := HN.out
        match l, this with
        | [t], _ => exact ⟨t, rfl⟩
        | [], h => simp only [List.length_nil] at h; omega
        | _ :: _ :: _, h => simp only [List.length_cons] at h; omega
      have HZ := Shut.mk (devC_local (t := t) (HXK.out.trans x1))
      have HRD0 := fun w' => dev_readDraft t w' (Nat.le_trans (HLL.out t (by simp)) (by decide))
      have cs1 := HC.out w2 HBQ.out 1 (by simp)
      simp only [List.getElem_cons_succ, List.getElem_cons_zero] at cs1
      have hb1 : (1 : Int) < (n : Int) := by omega
      have HZD := Lib.hid (show (Try.prog.info? 28).bind (·.zero) = some (.agg (draftL zeroD).toArray) by kernel_rfl)
      obtain ⟨d, hd⟩ : ∃ d, (readD t).getD noD = d := ⟨_, rfl⟩
      have HDD := Shut.mk hd
      have HDO := Lib.hid (show IdOk d.ref by
        rw [← hd]
        cases h : readD t with
        | none => exact zeroI_ok
        | some d => exact (readD_some h).2.2.1)
      obtain ⟨y, hy⟩ : ∃ y : Int, (if (readD t).isSome then (0 : Int) else 4) = y := ⟨_, rfl⟩
      have HRD := Lib.hid (show ∀ w', Calls Try.prog 50 #[.string ⟨t.toArray⟩] w' fun e w'' => e = .returned (.tuple #[.agg (draftV d), .int .i64 y]) ∧ Below w'.heap.size w' w'' from fun w' => by
        have h := HRD0 w'
        unfold DrD at h
        rw [hy, show (readD t).getD zeroD = d from hd] at h
        exact h)
      rw [hd] at HZ
      have HDS := Lib.hid (show (Try.prog.info? 28).map (·.size) = some (draftV d).size by rw [draftV_size HDO.out.1]; exact Try.sizeD)
      have HDZ := Lib.hid (show (draftV zeroD).size = (draftV d).size by rw [draftV_size HDO.out.1]; rfl)
      have HLC := Lib.hid (fun w' => dev_local15 d HDO.out w')
      have HSL := Lib.hid (show (entV noE).size = (entV (localE d)).size by rw [entV_size (localE_ok HDO.out)]; rfl)
      clear HRD0 hd hy x1 n1
      go_wp2_with fail
      refine (HRD.out w2).mono ?_
      rintro e w3 ⟨rfl, hb⟩
      have HX3 := Lib.hid (HXQ.out.below hb)
      have HB3 := Lib.hid (HBQ.out.trans (hb.mono HBQ.out.size))
      clear hb HXQ HBQ cs1 HRD
      go_wp2_with (first
        | (refine wpList_alloc_of rfl 28 rfl (draftL zeroD) HZD.out ?_)
        | (refine wpList_store_cells rfl 28 _ _ rfl rfl w3.heap.size (draftV zeroD) (draftV d) 28 rfl rfl (heap_alloc_new w3 _) HDS.out HDZ.out (draftV_all _) ?_))
      intro w4 hc hb
      have hb4 : Below w3.heap.size w3 w4 := But.toBelow ((Below.refl _ w3).alloc (Nat.le_refl _) _) hb.out (Nat.le_refl _) (by rw [World.size_alloc]; exact Nat.le_succ _)
      have HD4 := Lib.hid hc.out
      have HX4 := Lib.hid (HX3.out.below hb4)
      have HB4 := Lib.hid (HB3.out.trans (hb4.mono HB3.out.size))
      obtain ⟨gD, hgD⟩ : ∃ g, w3.heap.size = g := ⟨_, rfl⟩
      rw [hgD] at HD4 ⊢
      clear hc hb hb4 hgD HX3 HB3
      go_wp2_with (first | (refine wpList_load_cells rfl 28 _ rfl gD (draftV d) 28 _ rfl HD4.out Try.underlying28 rfl HDS.out ?_))
      refine (HLC.out w4).mono ?_
      rintro e w5 ⟨rfl, hb⟩
      have HX5 := Lib.hid (HX4.out.below hb)
      have HBQ := Lib.hid (HB4.out.trans (hb.mono HB4.out.size))
      clear hb HX4 HB4 HD4
      go_wp2_with (first | (refine wpList_store_cells rfl 30 _ _ rfl rfl w.heap.size (entV noE) (entV (localE d)) 30 rfl rfl HX5.out (sizeEV (localE_ok HDO.out)) HSL.out (entV_all _) ?_))
      intro w9 hc hb
      have HX9 := Lib.hid hc.out
      have HB9 := Lib.hid (show Below w.heap.size w w9 from But.toBelow HBQ.out hb.out (Nat.le_refl _) HBQ.out.size)
      clear hc hb
      go_wp2_with fail
      refine bodyPost_ret (results_cells rfl _ _ w.heap.size (entV (localE d)) 30 _ rfl HX9.out Try.underlying30 rfl (sizeEV (localE_ok HDO.out))) rfl ?_
      exact ⟨by rw [HZ.out], HB9.out⟩
    · have hni : ((n : Int) == 2) = false := by simp; omega
      have HZ := Shut.mk (show devC (k :: l) = noE from devC_else (fun h => by have := HN.out; omega) (fun h => by have := HXK.out; omega) (fun h => by have := HXK.out; omega))
      clear x1 n1
      go_upto_region 9 with (fail)
      refine wp_region_lit ?_
      refine wpList_build_val rfl 30 #[] rfl [] _ (by simp) built_ent0 ?_
      simp only [Act.put, List.setIfInBounds_toArray, List.set_cons_zero, List.set_cons_succ]
      refine wpList_store_cells rfl 30 _ _ rfl rfl w.heap.size (entV noE) (entV noE) 30 rfl rfl HXQ.out (sizeEV noE_ok) rfl (entV_all noE) ?_
      intro w9 hc hb
      have HX9 := Lib.hid hc.out
      have HB9 := Lib.hid (show Below w.heap.size w w9 from But.toBelow HBQ.out hb.out (Nat.le_refl _) HBQ.out.size)
      clear hc hb
      go_wp2_with fail
      refine bodyPost_ret (results_cells rfl _ _ w.heap.size (entV noE) 30 _ rfl HX9.out Try.underlying30 rfl (sizeEV noE_ok)) rfl ?_
      exact ⟨by rw [HZ.out], HB9.out⟩
  have g1 : ((x : Int) == 1) = false := by simp; omega
  by_cases x2 : x = 2
  · have g2 : ((x : Int) == 2) = true := by simp [x2]
    have g3 : ((x : Int) == 3) = false := by simp [x2]
    by_cases n1 : n = 7
    · have hni : ((n : Int) == 7) = true := by simp [n1]
      obtain ⟨f, n0, r, m, p, y, rfl⟩ : ∃ f n r m p y, l = [f, n, r, m, p, y] := by
        have := HN.out
        match l, this with
        | [f, n, r, m, p, y], _ => exact ⟨f, n, r, m, p, y, rfl⟩
        | [], h => simp only [List.length_nil] at h; omega
        | [_], h => simp only [List.length_cons, List.length_nil] at h; omega
        | [_, _], h => simp only [List.length_cons, List.length_nil] at h; omega
        | [_, _, _], h => simp only [List.length_cons, List.length_nil] at h; omega
        | [_, _, _, _], h => simp only [List.length_cons, List.length_nil] at h; omega
        | [_, _, _, _, _], h => simp only [List.length_cons, List.length_nil] at h; omega
        | _ :: _ :: _ :: _ :: _ :: _ :: _ :: _, h => simp only [List.length_cons] at h; omega
      have HZ0 := devC_recv (f := f) (n := n0) (r := r) (m := m) (p := p) (y := y) (HXK.out.trans x2)
      have hrc := dev_received15 (some ⟨g, og, none⟩) k f n0 r m p y cq w2 (HP.out.below HBQ.out) HLL.out
      obtain ⟨V0, hV0⟩ : ∃ e, recvE (openN f) (openN n0) (openN m) (refP r) p y = e := ⟨_, rfl⟩
      have HVO := Lib.hid (show V0.Ok by rw [← hV0]; exact recvE_ok _ _ _ _ _ (refP_ok r))
      rw [hV0] at hrc HZ0
      have HRC := Lib.hid hrc
      have HZ := Shut.mk HZ0
      have HSL := Lib.hid (show (entV noE).size = (entV V0).size by rw [entV_size HVO.out]; rfl)
      rw [n1] at hni ⊢
      clear hrc HZ0 hV0 x1 x2 n1
      go_wp2_with fail
      refine HRC.out.mono ?_
      rintro e w3 ⟨rfl, hb⟩
      have HX3 := Lib.hid (HXQ.out.below hb)
      have HB3 := Lib.hid (HBQ.out.trans (hb.mono HBQ.out.size))
      clear hb HXQ HBQ HRC
      have HBQ := HB3
      go_wp2_with (first | (refine wpList_store_cells rfl 30 _ _ rfl rfl w.heap.size (entV noE) (entV V0) 30 rfl rfl HX3.out (sizeEV HVO.out) HSL.out (entV_all _) ?_))
      intro w9 hc hb
      have HX9 := Lib.hid hc.out
      have HB9 := Lib.hid (show Below w.heap.size w w9 from But.toBelow HBQ.out hb.out (Nat.le_refl _) HBQ.out.size)
      clear hc hb
      go_wp2_with fail
      refine bodyPost_ret (results_cells rfl _ _ w.heap.size (entV V0) 30 _ rfl HX9.out Try.underlying30 rfl (sizeEV HVO.out)) rfl ?_
      exact ⟨by rw [HZ.out], HB9.out⟩
    · have hni : ((n : Int) == 7) = false := by simp; omega
      have HZ := Shut.mk (show devC (k :: l) = noE from devC_else (fun h => by have := HXK.out; omega) (fun h => by have := HN.out; omega) (fun h => by have := HXK.out; omega))
      clear x1 x2 n1
      go_upto_region 9 with (fail)
      refine wp_region_lit ?_
      refine wpList_build_val rfl 30 #[] rfl [] _ (by simp) built_ent0 ?_
      simp only [Act.put, List.setIfInBounds_toArray, List.set_cons_zero, List.set_cons_succ]
      refine wpList_store_cells rfl 30 _ _ rfl rfl w.heap.size (entV noE) (entV noE) 30 rfl rfl HXQ.out (sizeEV noE_ok) rfl (entV_all noE) ?_
      intro w9 hc hb
      have HX9 := Lib.hid hc.out
      have HB9 := Lib.hid (show Below w.heap.size w w9 from But.toBelow HBQ.out hb.out (Nat.le_refl _) HBQ.out.size)
      clear hc hb
      go_wp2_with fail
      refine bodyPost_ret (results_cells rfl _ _ w.heap.size (entV noE) 30 _ rfl HX9.out Try.underlying30 rfl (sizeEV noE_ok)) rfl ?_
      exact ⟨by rw [HZ.out], HB9.out⟩
  have g2 : ((x : Int) == 2) = false := by simp; omega
  by_cases x3 : x = 3
  · have g3 : ((x : Int) == 3) = true := by simp [x3]
    by_cases n1 : n = 3
    · have hni : ((n : Int) == 3) = true := by simp [n1]
      obtain ⟨m, p, rfl⟩ : ∃ m p, l = [m, p] := by
        have := HN.out
        match l, this with
        | [m, p], _ => exact ⟨m, p, rfl⟩
        | [], h => simp only [List.length_nil] at h; omega
        | [_], h => simp only [List.length_cons, List.length_nil] at h; omega
        | _ :: _ :: _ :: _, h => simp only [List.length_cons] at h; omega
      have HZ0 := devC_send (m := m) (p := p) (HXK.out.trans x3)
      have hnm := fun w' => dev_num15 m w' (HLL.out m (by simp))
      obtain ⟨xm, hxm⟩ : ∃ x, openN m = x := ⟨_, rfl⟩
      rw [hxm] at hnm HZ0
      have HNM0 := Lib.hid hnm
      have HSN := Lib.hid (fun w' => dev_send15 (xm : Int) p w')
      have HZ := Shut.mk HZ0
      have hc1 := fun (w' : World) (b : Below w2.heap.size w2 w') => HC.out w' (HBQ.out.trans (b.mono HBQ.out.size)) 1 (by simp)
      have hc2 := fun (w' : World) (b : Below w2.heap.size w2 w') => HC.out w' (HBQ.out.trans (b.mono HBQ.out.size)) 2 (by simp)
      simp only [List.getElem_cons_succ, List.getElem_cons_zero] at hc1 hc2
      have HC1 := Lib.hid hc1
      have HC2 := Lib.hid hc2
      have HSL := Lib.hid (show (entV noE).size = (entV (outE (xm : Int) p)).size by rw [entV_size (outE_ok _ _)]; rfl)
      rw [n1] at hni ⊢
      clear hnm HZ0 hxm hc1 hc2 x1 x2 x3 n1
      go_upto_region 8 with (fail)
      refine wp_region_class_tail (fun w' => Below w2.heap.size w2 w') 8 (by kernel_rfl) (by kernel_rfl) (Below.refl _ _).drew ?_
      simp only [List.take_succ_cons, List.take_zero, List.drop_succ_cons, List.drop_zero]
      repeat (first
        | (go_big_quiet_want; refine quiet_load_cell 9 _ rfl ⟨g, og + 1, none⟩ _ rfl HC1.out Try.isAgg9 ?_; go_big_quiet_on; simp only [Act.put, List.setIfInBounds_toArray, List.set_cons_zero, List.set_cons_succ])
        | (go_big_quiet_want; refine quiet_load_cell 9 _ rfl ⟨g, og + 2, none⟩ _ rfl HC2.out Try.isAgg9 ?_; go_big_quiet_on; simp only [Act.put, List.setIfInBounds_toArray, List.set_cons_zero, List.set_cons_succ])
        | go_big_quiet_step ((intro hs'; first
            | (go_at_call 49; exact (HNM0.out _).mono fun e w' h => ⟨h.1, hs'.trans (h.2.mono hs'.size)⟩)
            | (go_at_call 27; exact (HSN.out _).mono fun e w' h => ⟨h.1, hs'.trans (h.2.mono hs'.size)⟩)
            | rfl)))
      refine wpQuiet_nil ?_
      intro w3 hs3
      have HX3 := Lib.hid (HXQ.out.below hs3)
      have HB3 := Lib.hid (HBQ.out.trans (hs3.mono HBQ.out.size))
      clear hs3 HXQ HBQ HC1 HC2
      have HBQ := HB3
      refine wpList_store_cells rfl 30 _ _ rfl rfl w.heap.size (entV noE) (entV (outE (xm : Int) p)) 30 rfl rfl HX3.out (sizeEV (outE_ok _ _)) HSL.out (entV_all _) ?_
      intro w9 hc hb
      have HX9 := Lib.hid hc.out
      have HB9 := Lib.hid (show Below w.heap.size w w9 from But.toBelow HBQ.out hb.out (Nat.le_refl _) HBQ.out.size)
      clear hc hb
      go_wp2_with fail
      refine bodyPost_ret (results_cells rfl _ _ w.heap.size (entV (outE (xm : Int) p)) 30 _ rfl HX9.out Try.underlying30 rfl (sizeEV (outE_ok _ _))) rfl ?_
      exact ⟨by rw [HZ.out], HB9.out⟩
    · have hni : ((n : Int) == 3) = false := by simp; omega
      have HZ := Shut.mk (show devC (k :: l) = noE from devC_else (fun h => by have := HXK.out; omega) (fun h => by have := HXK.out; omega) (fun h => by have := HN.out; omega))
      clear x1 x2 x3 n1
      go_upto_region 9 with (fail)
      refine wp_region_lit ?_
      refine wpList_build_val rfl 30 #[] rfl [] _ (by simp) built_ent0 ?_
      simp only [Act.put, List.setIfInBounds_toArray, List.set_cons_zero, List.set_cons_succ]
      refine wpList_store_cells rfl 30 _ _ rfl rfl w.heap.size (entV noE) (entV noE) 30 rfl rfl HXQ.out (sizeEV noE_ok) rfl (entV_all noE) ?_
      intro w9 hc hb
      have HX9 := Lib.hid hc.out
      have HB9 := Lib.hid (show Below w.heap.size w w9 from But.toBelow HBQ.out hb.out (Nat.le_refl _) HBQ.out.size)
      clear hc hb
      go_wp2_with fail
      refine bodyPost_ret (results_cells rfl _ _ w.heap.size (entV noE) 30 _ rfl HX9.out Try.underlying30 rfl (sizeEV noE_ok)) rfl ?_
      exact ⟨by rw [HZ.out], HB9.out⟩
  have g3 : ((x : Int) == 3) = false := by simp; omega
  have HZ := Shut.mk (show devC (k :: l) = noE from devC_else (fun h => by have := HXK.out; omega) (fun h => by have := HXK.out; omega) (fun h => by have := HXK.out; omega))
  clear x1 x2 x3
  go_upto_region 9 with (fail)
  refine wp_region_lit ?_
  refine wpList_build_val rfl 30 #[] rfl [] _ (by simp) built_ent0 ?_
  simp only [Act.put, List.setIfInBounds_toArray, List.set_cons_zero, List.set_cons_succ]
  refine wpList_store_cells rfl 30 _ _ rfl rfl w.heap.size (entV noE) (entV noE) 30 rfl rfl HXQ.out (sizeEV noE_ok) rfl (entV_all noE) ?_
  intro w9 hc hb
  have HX9 := Lib.hid hc.out
  have HB9 := Lib.hid (show Below w.heap.size w w9 from But.toBelow HBQ.out hb.out (Nat.le_refl _) HBQ.out.size)
  clear hc hb
  go_wp2_with fail
  refine bodyPost_ret (results_cells rfl _ _ w.heap.size (entV noE) 30 _ rfl HX9.out Try.underlying30 rfl (sizeEV noE_ok)) rfl ?_
  exact ⟨by rw [HZ.out], HB9.out⟩
end Go.Proofs.Ytenmkfjgjemiiaa
namespace Go.Proofs.Ytenmkfjgjemiiaa
open Go.RowKit Go.BigFrame
def DrE (o : Option EntN) : Value := .tuple #[.agg (entV (o.getD noE)), .int .i64 (if o.isSome then 0 else 4)]
theorem devC_len {l : List (List UInt8)} (hl : ∀ t ∈ l, t.length ≤ 262144) : (devC l).Len := by
  have hok := (devC_fit l).ok
  have z : ∀ {n : Nat}, n ≤ 262144 → n ≤ 140737488351232 := fun h => Nat.le_trans h (by decide)
  have hd : ∀ t, ((readD t).getD noD).key.length ≤ 262144 ∧ ((readD t).getD noD).val.length ≤ 262144 := fun t => by
    cases h : readD t with
    | none => exact ⟨Nat.zero_le _, Nat.zero_le _⟩
    | some d =>
      have h1 := (readD_some h).2.1
      exact ⟨Nat.le_trans h1.2.2.2.1 (by decide), Nat.le_trans h1.2.2.2.2.1 (by decide)⟩
  refine ⟨hok, ?_, ?_, ?_, ?_⟩
  all_goals
    match l, hl with
    | [], _ => exact Nat.zero_le _
    | [_], _ => exact Nat.zero_le _
    | [k, t], hl => simp only [devC]; split <;> first | exact z (hd t).1 | exact z (hd t).2 | exact Nat.zero_le _
    | [k, m, p], hl => simp only [devC]; split <;> first | exact Nat.zero_le _ | exact z (hl p (by simp))
    | [_, _, _, _], _ => exact Nat.zero_le _
    | [_, _, _, _, _], _ => exact Nat.zero_le _
    | [_, _, _, _, _, _], _ => exact Nat.zero_le _
    | [k, f, q, r, m, p, g], hl => simp only [devC]; split <;> first | exact Nat.zero_le _ | exact z (hl p (by simp)) | exact z (hl g (by simp))
    | _ :: _ :: _ :: _ :: _ :: _ :: _ :: _ :: _, _ => exact Nat.zero_le _
set_option maxHeartbeats 4000000 in
set_option maxRecDepth 100000 in
theorem dev_read15 (s : List UInt8) (w : World) (hm : s.length ≤ 1000000) :
    Calls Try.prog 18 #[.string ⟨s.toArray⟩] w fun e w' => e = .returned (DrE (readE s)) ∧ Below w.heap.size w w' := by
  have HS := Lib.hid (sizeEV noE_ok)
  have HZE := Lib.hid (show (Try.prog.info? 30).bind (·.zero) = some (.agg (entL noE).toArray) by kernel_rfl)
  have HM := Lib.hid hm
  clear hm
  go_enter Try.func18, Try.ntmps18
  go_upto_region 1 with (first | (refine wpList_alloc_of rfl 30 rfl (entL noE) HZE.out ?_))
  have hx : Cells w.heap.size 30 (entV noE) (w.alloc (.cells (entV noE) 30)) := heap_alloc_new w _
  have hb : Below w.heap.size w (w.alloc (.cells (entV noE) 30)) := (Below.refl _ _).alloc (Nat.le_refl _) _
  change Code.wp _ _ _ _ (w.alloc (.cells (entV noE) 30))
  obtain ⟨w1, hw1⟩ : ∃ x, x = w.alloc (.cells (entV noE) 30) := ⟨_, rfl⟩
  rw [← hw1] at hx hb ⊢
  have HX := Lib.hid hx
  have HB := Lib.hid hb
  clear hw1 hx hb
  go_wp2_with fail
  obtain ⟨q, hq⟩ : ∃ q, splitB s = q := ⟨_, rfl⟩
  have HL := Shut.mk hq
  have hcc := split_any s w1 (by have := HM.out; omega)
  rw [hq] at hcc
  clear hq
  refine hcc.mono ?_
  rintro e w2 ⟨⟨v, rfl, ho⟩, hb⟩
  obtain ⟨ao, cq, rfl⟩ := ho.form
  have HXQ := Lib.hid (HX.out.below hb)
  have HBQ := Lib.hid (HB.out.trans (hb.mono HB.out.size))
  have HSA := Lib.hid (strsAt_own ho)
  clear hcc ho hb HX HB
  cases q with
  | none =>
    simp only [Option.getD_none, List.length_nil, Option.isSome_none]
    have HR := Shut.mk (readE_none HL.out)
    clear HSA
    go_upto_region 3 with (fail)
    refine wp_region_lit ?_
    refine wpList_build_val rfl 30 #[] rfl [] _ (by simp) built_ent0 ?_
    simp only [Act.put, List.setIfInBounds_toArray, List.set_cons_zero, List.set_cons_succ]
    refine wpList_store_cells rfl 30 _ _ rfl rfl w.heap.size (entV noE) (entV noE) 30 rfl rfl HXQ.out HS.out rfl (entV_all noE) ?_
    intro wf hc hb
    have HXF := Lib.hid hc.out
    have HBF := Lib.hid (show Below w.heap.size w wf from But.toBelow HBQ.out hb.out (Nat.le_refl _) HBQ.out.size)
    clear hc hb HXQ HBQ
    go_wp2_with fail
    refine bodyPost_ret (results_cells_tmp rfl _ _ w.heap.size (entV noE) 30 _ _ rfl rfl HXF.out Try.underlying30 rfl HS.out) rfl ?_
    exact ⟨by rw [HR.out]; rfl, HBF.out⟩
  | some l =>
    simp only [Option.getD_some, Option.isSome_some] at HSA ⊢
    have HLR := Lib.hid (split_parts HL.out)
    cases l with
    | nil =>
      simp only [List.length_nil]
      have HR := Shut.mk (readE_split_nil HL.out)
      clear HSA
      go_upto_region 3 with (fail)
      refine wp_region_lit ?_
      refine wpList_build_val rfl 30 #[] rfl [] _ (by simp) built_ent0 ?_
      simp only [Act.put, List.setIfInBounds_toArray, List.set_cons_zero, List.set_cons_succ]
      refine wpList_store_cells rfl 30 _ _ rfl rfl w.heap.size (entV noE) (entV noE) 30 rfl rfl HXQ.out HS.out rfl (entV_all noE) ?_
      intro wf hc hb
      have HXF := Lib.hid hc.out
      have HBF := Lib.hid (show Below w.heap.size w wf from But.toBelow HBQ.out hb.out (Nat.le_refl _) HBQ.out.size)
      clear hc hb HXQ HBQ
      go_wp2_with fail
      refine bodyPost_ret (results_cells_tmp rfl _ _ w.heap.size (entV noE) 30 _ _ rfl rfl HXF.out Try.underlying30 rfl HS.out) rfl ?_
      exact ⟨by rw [HR.out]; rfl, HBF.out⟩
    | cons k l =>
      have hll : l.length ≤ 1000000 := by
        have h1 := splitB_some HL.out
        have h2 := listB_length_ge (k :: l)
        rw [h1] at h2
        have := HM.out
        simp only [List.length_cons] at h2
        omega
      have HPA := Lib.hid (dev_parted15 ao k l cq w2 HSA.out HLR.out hll)
      have HLE := Lib.hid (devC_len HLR.out)
      have HFI := Lib.hid (devC_fit (k :: l))
      have HRR := Shut.mk (readE_dev HL.out)
      obtain ⟨n, hn⟩ : ∃ n, (k :: l).length = n := ⟨_, rfl⟩
      have h0 : ((n : Int) == 0) = false := by simp; rw [← hn]; simp
      obtain ⟨d, hd⟩ : ∃ d, devC (k :: l) = d := ⟨_, rfl⟩
      rw [hd] at HPA HLE HFI HRR
      rw [hn] at HPA ⊢
      have HTX := Lib.hid (fun w' => dev_text15 d HLE.out HFI.out.seq w')
      have HSE := Lib.hid (sizeEV HLE.out.ok)
      have HSZ := Lib.hid (show (entV noE).size = (entV d).size by rw [entV_size HLE.out.ok]; rfl)
      clear hll hn hd HSA
      go_wp2_with fail
      refine HPA.out.mono ?_
      rintro e w3 ⟨rfl, hb⟩
      have HX3 := Lib.hid (HXQ.out.below hb)
      have HB3 := Lib.hid (HBQ.out.trans (hb.mono HBQ.out.size))
      clear hb HXQ HBQ HPA h0
      go_wp2_with (first
        | (refine wpList_alloc_of rfl 30 rfl (entL noE) HZE.out ?_)
        | (refine wpList_store_cells rfl 30 _ _ rfl rfl w3.heap.size (entV noE) (entV d) 30 rfl rfl (heap_alloc_new w3 _) HSE.out HSZ.out (entV_all d) ?_))
      intro w4 hc hb
      have hb4 : Below w3.heap.size w3 w4 := But.toBelow ((Below.refl _ w3).alloc (Nat.le_refl _) _) hb.out (Nat.le_refl _) (by rw [World.size_alloc]; exact Nat.le_succ _)
      have HE4 := Lib.hid hc.out
      have HX4 := Lib.hid (HX3.out.below hb4)
      have HB4 := Lib.hid (HB3.out.trans (hb4.mono HB3.out.size))
      obtain ⟨g, hg⟩ : ∃ g, w3.heap.size = g := ⟨_, rfl⟩
      rw [hg] at HE4 ⊢
      clear hc hb hb4 hg HX3 HB3
      obtain ⟨T, hT⟩ : ∃ T, entB d = T := ⟨_, rfl⟩
      rw [hT] at HTX HRR
      clear hT
      go_wp2_with (first | (refine wpList_load_cells rfl 30 _ rfl g (entV d) 30 _ rfl HE4.out Try.underlying30 rfl HSE.out ?_))
      refine (HTX.out w4).mono ?_
      rintro e w5 ⟨rfl, hb⟩
      have HE5 := Lib.hid (HE4.out.below hb)
      have HXQ := Lib.hid (HX4.out.below hb)
      have HBQ := Lib.hid (HB4.out.trans (hb.mono HB4.out.size))
      clear hb HE4 HX4 HB4 HTX
      by_cases hts : T = s
      · have HR := Shut.mk (HRR.out.trans (if_pos hts))
        have heq : (T == s) = true := by simp [hts]
        clear hts HRR
        go_upto_region 7 with (fail)
        refine wp_region_lit ?_
        refine wpList_load_cells rfl 30 _ rfl g (entV d) 30 _ rfl HE5.out Try.underlying30 rfl HSE.out ?_
        simp only [Act.put, List.setIfInBounds_toArray, List.set_cons_zero, List.set_cons_succ]
        refine wpList_store_cells rfl 30 _ _ rfl rfl w.heap.size (entV noE) (entV d) 30 rfl rfl HXQ.out HSE.out HSZ.out (entV_all d) ?_
        intro wf hc hb
        have HXF := Lib.hid hc.out
        have HBF := Lib.hid (show Below w.heap.size w wf from But.toBelow HBQ.out hb.out (Nat.le_refl _) HBQ.out.size)
        clear hc hb HXQ HBQ
        go_wp2_with fail
        refine bodyPost_ret (results_cells_tmp rfl _ _ w.heap.size (entV d) 30 _ _ rfl rfl HXF.out Try.underlying30 rfl HSE.out) rfl ?_
        exact ⟨by rw [HR.out]; rfl, HBF.out⟩
      · have HR := Shut.mk (HRR.out.trans (if_neg hts))
        have heq : (T == s) = false := by simp [hts]
        clear hts HRR HE5
        go_upto_region 6 with (fail)
        refine wp_region_lit ?_
        refine wpList_build_val rfl 30 #[] rfl [] _ (by simp) built_ent0 ?_
        simp only [Act.put, List.setIfInBounds_toArray, List.set_cons_zero, List.set_cons_succ]
        refine wpList_store_cells rfl 30 _ _ rfl rfl w.heap.size (entV noE) (entV noE) 30 rfl rfl HXQ.out HS.out rfl (entV_all noE) ?_
        intro wf hc hb
        have HXF := Lib.hid hc.out
        have HBF := Lib.hid (show Below w.heap.size w wf from But.toBelow HBQ.out hb.out (Nat.le_refl _) HBQ.out.size)
        clear hc hb HXQ HBQ
        go_wp2_with fail
        refine bodyPost_ret (results_cells_tmp rfl _ _ w.heap.size (entV noE) 30 _ _ rfl rfl HXF.out Try.underlying30 rfl HS.out) rfl ?_
        exact ⟨by rw [HR.out]; rfl, HBF.out⟩
end Go.Proofs.Ytenmkfjgjemiiaa
namespace Go.Proofs.Ytenmkfjgjemiiaa.entryLimits
open Go.RowKit Go.BigFrame Go.Proofs.Ytenmkfjgjemiiaa
def zeroT (n : Nat) : List UInt8 := txt (List.replicate n 0)
theorem zeroT_len (n : Nat) : (zeroT n).length = n := by rw [zeroT, txt_len, List.length_replicate]
def limE (q : Int) (N M : Nat) : EntN := ⟨2, noD, 0, q, zeroI, 31, zeroT N, zeroT M⟩
theorem limE_ok (q : Int) (N M : Nat) : (limE q N M).Ok := ⟨zeroI_ok, zeroI_ok⟩
theorem limE_len (q : Int) (N M : Nat) (hN : N ≤ 100000) (hM : M ≤ 100000) : (limE q N M).Len := ⟨limE_ok q N M, Nat.zero_le _, Nat.zero_le _, by show (zeroT N).length ≤ _; rw [zeroT_len]; omega, by show (zeroT M).length ≤ _; rw [zeroT_len]; omega⟩
theorem limE_good (q : Int) (N M : Nat) : GoodE (limE q N M) ↔ N ≤ 2048 ∧ M ≤ 1024 ∧ 0 < q := by
  constructor
  · rintro (h | h | h)
    · exact absurd h.1 (by simp [limE])
    · obtain ⟨_, ⟨_, _, h3⟩, _, _, _, h6, h7⟩ := h
      simp only [limE, zeroT_len] at h3 h6 h7
      exact ⟨h3, h7, by omega⟩
    · exact absurd h.1 (by simp [limE])
  · rintro ⟨h1, h2, h3⟩
    exact .inr (.inl ⟨rfl, ⟨show (1 : Int) ≤ 31 by decide, show (31 : Int) ≤ 31 by decide, by simp only [limE, zeroT_len]; exact h1⟩, rfl, Int.le_refl 0, show (0 : Int) ≤ 4 by decide, by simp only [limE]; omega, by simp only [limE, zeroT_len]; exact h2⟩)
theorem built_lim (q : Int) (N M : Nat) : Try.prog.built 30 [(0, .int .i64 2), (3, .int .i64 q), (5, .int .i64 31), (6, .string ⟨(zeroT N).toArray⟩), (7, .string ⟨(zeroT M).toArray⟩)] = some (entV (limE q N M)) := by
  rw [ent_fill, fill_kind, fill_seq _ _ ⟨zeroI_ok, zeroI_ok⟩, fill_mask _ _ ⟨zeroI_ok, zeroI_ok⟩, fill_pay _ _ ⟨zeroI_ok, zeroI_ok⟩, fill_sig _ _ ⟨zeroI_ok, zeroI_ok⟩, fill_end]
  rfl
theorem made_row {B g n : Nat} {w : World} (h : w.ownsRow B 5 1 (.slice (some ⟨g, 0, none⟩) n n) n (madeCells (Value.int .u8 0).cells (n * 1)).toList) : OwnN B 5 .u8 (.slice (some ⟨g, 0, none⟩) n n) (List.replicate n 0) w := by
  have e : (madeCells (Value.int .u8 0).cells (n * 1)).toList = nums .u8 (List.replicate n 0) := by
    refine List.ext_getElem (by simp [madeCells, nums]) fun j h1 h2 => ?_
    simp only [madeCells, Array.getElem_toList, Array.getElem_map, nums, List.getElem_map, List.getElem_replicate]
    simp [Value.cells, Nat.mod_one]
  unfold OwnN
  rw [List.length_replicate, ← e]
  exact h
set_option maxHeartbeats 8000000 in
set_option maxRecDepth 100000 in
theorem walk (w : World) (p : Int) (_wp : (Lit.int .i64 p).wf = true) (g : Int) (_wg : (Lit.int .i64 g).wf = true) (sq : Int) (wsq : (Lit.int .i64 sq).wf = true) :
    Calls Try.prog 7 #[.int .i64 p, .int .i64 g, .int .i64 sq] w fun e w' => e = .returned (.bool true) ∧ Below w.heap.size w w' := by
  have bq := bounds_i64 wsq
  have HQ := Lib.hid (show sq < 9223372036854775808 by omega)
  clear wsq bq
  have HZE := Lib.hid (show (Try.prog.info? 30).bind (·.zero) = some (.agg (entL noE).toArray) by kernel_rfl)
  go_enter Try.func7, Try.ntmps7
  go_wp2_with fail
  refine (alive15_any w).mono ?_
  rintro e w2 ⟨rfl, hb⟩
  have HB2 := Lib.hid hb
  clear hb
  by_cases h1 : p < -1
  · have g1 : decide (p < -1) = true := decide_eq_true h1
    go_wp2_with fail
    go_ret
    exact ⟨rfl, HB2.out⟩
  have g1 : decide (p < -1) = false := decide_eq_false h1
  by_cases h2 : 1 < p
  · have g2 : decide (1 < p) = true := decide_eq_true h2
    go_wp2_with fail
    go_ret
    exact ⟨rfl, HB2.out⟩
  have g2 : decide (1 < p) = false := decide_eq_false h2
  by_cases h3 : g < -1
  · have g3 : decide (g < -1) = true := decide_eq_true h3
    go_wp2_with fail
    go_ret
    exact ⟨rfl, HB2.out⟩
  have g3 : decide (g < -1) = false := decide_eq_false h3
  by_cases h4 : 1 < g
  · have g4 : decide (1 < g) = true := decide_eq_true h4
    go_wp2_with fail
    go_ret
    exact ⟨rfl, HB2.out⟩
  have g4 : decide (1 < g) = false := decide_eq_false h4
  by_cases h5 : sq < 0
  · have g5 : decide (sq < 0) = true := decide_eq_true h5
    go_wp2_with fail
    go_ret
    exact ⟨rfl, HB2.out⟩
  have g5 : decide (sq < 0) = false := decide_eq_false h5
  obtain ⟨N, hN, hNp, hNl⟩ : ∃ N : Nat, (2048 : Int) + p = N ∧ (N ≤ 2048 ↔ p ≤ 0) ∧ 2047 ≤ N ∧ N ≤ 2049 := ⟨(2048 + p).toNat, by omega, by omega, by omega⟩
  obtain ⟨M, hM, hMp, hMl⟩ : ∃ M : Nat, (1024 : Int) + g = M ∧ (M ≤ 1024 ↔ g ≤ 0) ∧ 1023 ≤ M ∧ M ≤ 1025 := ⟨(1024 + g).toNat, by omega, by omega, by omega⟩
  have HAN := Lib.hid (show ∀ w', (binOp .add 3 (.int .i64 2048) (.int .i64 p)).run Try.prog w' = .ok (.int .i64 (N : Int)) w' from fun w' => by
    obtain rfl | rfl | rfl : p = -1 ∨ p = 0 ∨ p = 1 := by omega
    · rw [← hN]; kernel_rfl
    · rw [← hN]; kernel_rfl
    · rw [← hN]; kernel_rfl)
  have HAM := Lib.hid (show ∀ w', (binOp .add 3 (.int .i64 1024) (.int .i64 g)).run Try.prog w' = .ok (.int .i64 (M : Int)) w' from fun w' => by
    obtain rfl | rfl | rfl : g = -1 ∨ g = 0 ∨ g = 1 := by omega
    · rw [← hM]; kernel_rfl
    · rw [← hM]; kernel_rfl
    · rw [← hM]; kernel_rfl)
  obtain ⟨hN1, hN2⟩ := hNl
  obtain ⟨hM1, hM2⟩ := hMl
  have HGG := Shut.mk (show GoodE (limE sq N M) ↔ p ≤ 0 ∧ g ≤ 0 ∧ 0 < sq by rw [limE_good, hNp, hMp])
  have HLN := Lib.hid (limE_len sq N M (by omega) (by omega))
  clear hN hM hNp hMp
  go_upto_region 5 with (fail)
  refine wp_region_free 11 (fun q V w' => Vals q V [(0, .int .i64 sq), (1, .int .i64 p), (2, .int .i64 (N : Int)), (4, .string ⟨(zeroT N).toArray⟩), (5, .int .i64 g), (6, .int .i64 (M : Int)), (8, .string ⟨(zeroT M).toArray⟩), (9, .agg (entV (limE sq N M)))] ∧ Row q V w2.heap.size 3 N 5 .u8 (List.replicate N 0) w' ∧ Row q V w2.heap.size 7 M 5 .u8 (List.replicate M 0) w' ∧ NewC q V w2.heap.size 10 30 (entV noE) w' ∧ Below w2.heap.size w2 w') (fun _ => undef) (by kernel_rfl) (by kernel_rfl) (by kernel_rfl) (by simp only [List.take_succ_cons, List.take_zero, putAll, Act.put, List.setIfInBounds_toArray, List.set_cons_zero, List.set_cons_succ]) ⟨Vals.none, Row.none, Row.none, NewC.none, (Below.refl _ _).drew⟩ ?_ ?_
  · simp only [List.take_succ_cons, List.take_zero, putAll, Nat.zero_add, Nat.reduceAdd, Act.put, List.setIfInBounds_toArray, List.set_cons_zero, List.set_cons_succ]
    refine FreeSteps.cons ?_ (FreeSteps.cons ?_ (FreeSteps.cons ?_ (FreeSteps.cons ?_ (FreeSteps.cons ?_ (FreeSteps.cons ?_ (FreeSteps.cons ?_ (FreeSteps.cons ?_ (FreeSteps.cons ?_ (FreeSteps.cons ?_ (FreeSteps.cons ?_ (FreeSteps.nil)))))))))))
    all_goals (refine FreeStep.fresh rfl ?_; rintro q V wq hr hu ⟨hVs, h3, h7, h10, hb⟩ K hK)
    · exact op_move (.tmp 2) rfl _ rfl (hK _ _ ⟨hVs.set rfl, h3.ne (by decide) (Below.refl _ _), h7.ne (by decide) (Below.refl _ _), h10.ne (by decide) (Below.refl _ _), hb⟩)
    · exact op_move (.tmp 0) rfl _ rfl (hK _ _ ⟨hVs.set rfl, h3.ne (by decide) (Below.refl _ _), h7.ne (by decide) (Below.refl _ _), h10.ne (by decide) (Below.refl _ _), hb⟩)
    · exact op_bin .add 3 3 (.const (.int .i64 2048)) (.tmp 32) rfl _ _ _ rfl (hVs.get 1 (hr { on := 1, ground := .data } (by simp) rfl) rfl) (fun _ => rfl) HAN.out (hK _ _ ⟨hVs.set rfl, h3.ne (by decide) (Below.refl _ _), h7.ne (by decide) (Below.refl _ _), h10.ne (by decide) (Below.refl _ _), hb⟩)
    · refine op_make_full (.tmp 33) (.tmp 33) 53 rfl w2.heap.size 5 (.int .u8 0) 1 1 Try.underlying53 Try.infoU8 .i64 .i64 N (hVs.get 2 (hr { on := 2, ground := .data } (by simp) rfl) rfl) (hVs.get 2 (hr { on := 2, ground := .data } (by simp) rfl) rfl) (by omega) (by unfold maxLen; omega) hb.size ?_
      intro w' hown hgr
      have hrow : OwnN w2.heap.size 5 .u8 (.slice (some ⟨wq.heap.size, 0, none⟩) N N) (List.replicate N 0) w' := made_row hown
      have hb' : Below wq.heap.size wq w' := (Below.refl _ _).grown hgr (Nat.le_refl _) (by intro g hg; cases hg)
      exact (hK _ _ ⟨hVs.off rfl, .same hrow, h7.ne (by decide) hb', h10.ne (by decide) hb', hb.trans (hb'.mono hb.size)⟩)
    · obtain ⟨ao, cc, e1, k1⟩ := h3 (hr { on := 3, ground := .data } (by simp) rfl)
      exact op_conv 53 9 (.tmp 34) rfl _ _ e1 (conv_row (List.replicate N 0) (by simp) (by simp; omega) (fun x hx => by rw [(List.mem_replicate.1 hx).2]; decide) k1) (hK _ _ ⟨hVs.set rfl, h3.ne (by decide) (Below.refl _ _), h7.ne (by decide) (Below.refl _ _), h10.ne (by decide) (Below.refl _ _), hb⟩)
    · exact op_move (.tmp 1) rfl _ rfl (hK _ _ ⟨hVs.set rfl, h3.ne (by decide) (Below.refl _ _), h7.ne (by decide) (Below.refl _ _), h10.ne (by decide) (Below.refl _ _), hb⟩)
    · exact op_bin .add 3 3 (.const (.int .i64 1024)) (.tmp 36) rfl _ _ _ rfl (hVs.get 5 (hr { on := 5, ground := .data } (by simp) rfl) rfl) (fun _ => rfl) HAM.out (hK _ _ ⟨hVs.set rfl, h3.ne (by decide) (Below.refl _ _), h7.ne (by decide) (Below.refl _ _), h10.ne (by decide) (Below.refl _ _), hb⟩)
    · refine op_make_full (.tmp 37) (.tmp 37) 53 rfl w2.heap.size 5 (.int .u8 0) 1 1 Try.underlying53 Try.infoU8 .i64 .i64 M (hVs.get 6 (hr { on := 6, ground := .data } (by simp) rfl) rfl) (hVs.get 6 (hr { on := 6, ground := .data } (by simp) rfl) rfl) (by omega) (by unfold maxLen; omega) hb.size ?_
      intro w' hown hgr
      have hrow : OwnN w2.heap.size 5 .u8 (.slice (some ⟨wq.heap.size, 0, none⟩) M M) (List.replicate M 0) w' := made_row hown
      have hb' : Below wq.heap.size wq w' := (Below.refl _ _).grown hgr (Nat.le_refl _) (by intro g hg; cases hg)
      exact (hK _ _ ⟨hVs.off rfl, h3.ne (by decide) hb', .same hrow, h10.ne (by decide) hb', hb.trans (hb'.mono hb.size)⟩)
    · obtain ⟨ao, cc, e1, k1⟩ := h7 (hr { on := 7, ground := .data } (by simp) rfl)
      exact op_conv 53 9 (.tmp 38) rfl _ _ e1 (conv_row (List.replicate M 0) (by simp) (by simp; omega) (fun x hx => by rw [(List.mem_replicate.1 hx).2]; decide) k1) (hK _ _ ⟨hVs.set rfl, h3.ne (by decide) (Below.refl _ _), h7.ne (by decide) (Below.refl _ _), h10.ne (by decide) (Below.refl _ _), hb⟩)
    · exact op_build_val 30 _ rfl [(0, .int .i64 2), (3, .int .i64 sq), (5, .int .i64 31), (6, .string ⟨(zeroT N).toArray⟩), (7, .string ⟨(zeroT M).toArray⟩)] _ (by
          have v0 := (hVs.get 0 (hr { on := 0, ground := .data } (by simp) rfl) rfl)
          have v4 := (hVs.get 4 (hr { on := 4, ground := .data } (by simp) rfl) rfl)
          have v8 := (hVs.get 8 (hr { on := 8, ground := .data } (by simp) rfl) rfl)
          rw [List.map_toArray]
          show [((0 : Nat), Value.int .i64 2), (3, V 0), (5, .int .i64 31), (6, V 4), (7, V 8)].toArray = _
          rw [v0, v4, v8]) (built_lim sq N M) (hK _ _ ⟨hVs.set rfl, h3.ne (by decide) (Below.refl _ _), h7.ne (by decide) (Below.refl _ _), h10.ne (by decide) (Below.refl _ _), hb⟩)
    · exact op_alloc 30 rfl (entV noE) (run_alloc_of 30 (entL noE) HZE.out) (hK _ _ ⟨hVs.off rfl, h3.ne (by decide) ((Below.refl _ _).alloc (Nat.le_refl _) _), h7.ne (by decide) ((Below.refl _ _).alloc (Nat.le_refl _) _), .same hb.size, hb.alloc hb.size _⟩)
  rintro q V wq hall ⟨hVs, h3, h7, h10, hb⟩
  have v0 := hVs.get 0 (hall 0 (by decide)) rfl
  have v1 := hVs.get 1 (hall 1 (by decide)) rfl
  have v2 := hVs.get 2 (hall 2 (by decide)) rfl
  obtain ⟨ao3, cc3, v3, hs3⟩ := h3 (hall 3 (by decide))
  have v4 := hVs.get 4 (hall 4 (by decide)) rfl
  have v5 := hVs.get 5 (hall 5 (by decide)) rfl
  have v6 := hVs.get 6 (hall 6 (by decide)) rfl
  obtain ⟨ao7, cc7, v7, hs7⟩ := h7 (hall 7 (by decide))
  have v8 := hVs.get 8 (hall 8 (by decide)) rfl
  have v9 := hVs.get 9 (hall 9 (by decide)) rfl
  obtain ⟨g10, v10, hg10, hc10⟩ := h10 (hall 10 (by decide))
  simp only [List.take_succ_cons, List.take_zero, List.drop_succ_cons, List.drop_zero, putAll, Nat.zero_add, Nat.reduceAdd, v0, v1, v2, v3, v4, v5, v6, v7, v8, v9, v10, Act.put, List.setIfInBounds_toArray, List.set_cons_zero, List.set_cons_succ]
  clear hVs v0 v1 v2 v3 v4 v5 v6 v7 v8 v9 v10 hall
  have HC10 := Lib.hid hc10
  have HG10 := Lib.hid hg10
  have hb3' : Below w2.heap.size w2 wq := hb
  obtain ⟨w3, hw3⟩ : ∃ x, x = wq := ⟨_, rfl⟩
  rw [← hw3] at HC10 hb3' ⊢
  clear hw3
  have HSE := Lib.hid (sizeEV (limE_ok sq N M))
  refine wpList_store_cells rfl 30 _ _ rfl rfl g10 (entV noE) (entV (limE sq N M)) 30 rfl rfl HC10.out HSE.out (by rw [entV_size (limE_ok sq N M)]; rfl) (entV_all _) ?_
  intro w4 hc hbu
  have HC4 := Lib.hid hc.out
  have HB4 := Lib.hid (HB2.out.trans ((But.toBelow hb3' hbu.out HG10.out hb3'.size).mono HB2.out.size))
  clear hc hbu hb3' hb HC10 HG10 h1 h2 h3 h4 h5 g1 g2 g3 g4 g5 hs3 hs7 HAN HAM hN1 hN2 hM1 hM2
  obtain ⟨E, hE⟩ : ∃ x, limE sq N M = x := ⟨_, rfl⟩
  have HFI := Lib.hid (show E.Fit from ⟨by rw [← hE]; exact limE_ok sq N M, by rw [← hE]; exact HQ.out⟩)
  rw [hE] at HSE HC4 HGG HLN
  obtain ⟨b, hbb⟩ : ∃ x, decide (GoodE E) = x := ⟨_, rfl⟩
  have HBB := Shut.mk hbb
  clear hE hbb HQ
  go_upto_region 6 with (fail)
  go_cut [8] from 41 to 51 (fun s wx => s = .bool b ∧ wx = w4)
  case first =>
    by_cases h1 : p ≤ 0
    · have g1 : decide (p ≤ 0) = true := decide_eq_true h1
      by_cases h2 : g ≤ 0
      · have g2 : decide (g ≤ 0) = true := decide_eq_true h2
        by_cases h3 : 0 < sq
        · have g3 : decide (0 < sq) = true := decide_eq_true h3
          go_wp2_with fail
          go_meet
          case rel => exact ⟨by rw [← HBB.out, decide_eq_true (HGG.out.2 ⟨h1, h2, h3⟩)], rfl⟩
        · have g3 : decide (0 < sq) = false := decide_eq_false h3
          go_wp2_with fail
          go_meet
          case rel => exact ⟨by rw [← HBB.out, decide_eq_false (fun h => by have := (HGG.out.1 h).2.2; omega)], rfl⟩
      · have g2 : decide (g ≤ 0) = false := decide_eq_false h2
        go_wp2_with fail
        go_meet
        case rel => exact ⟨by rw [← HBB.out, decide_eq_false (fun h => by have := (HGG.out.1 h).2.1; omega)], rfl⟩
    · have g1 : decide (p ≤ 0) = false := decide_eq_false h1
      go_wp2_with fail
      go_meet
      case rel => exact ⟨by rw [← HBB.out, decide_eq_false (fun h => by have := (HGG.out.1 h).1; omega)], rfl⟩
  case rest =>
  obtain ⟨rfl, hwc⟩ := hcut
  rw [hwc]
  clear hwc HGG
  have HTX := Lib.hid (fun w' => dev_text15 E HLN.out HFI.out.seq w')
  have HRD := Lib.hid (fun w' => dev_read15 (entB E) w' (by have := entB_le HFI.out; omega))
  have HGD := Lib.hid (fun w' => dev_good15 E HLN.out w')
  rw [readE_entB HFI.out] at HRD
  rw [HBB.out] at HGD
  obtain ⟨T, hT⟩ : ∃ T, entB E = T := ⟨_, rfl⟩
  rw [hT] at HTX HRD
  clear hT
  have heq := fun w' => equal_ent E E HFI.out.ok HFI.out.ok w'
  rw [decide_eq_true (rfl : E = E)] at heq
  have HEQ := Lib.hid heq
  clear heq
  have HSZ := Lib.hid (show (entV noE).size = (entV E).size by rw [entV_size HFI.out.ok]; rfl)
  go_wp2_with (refine wpList_load_cells rfl 30 _ rfl g10 (entV E) 30 _ rfl HC4.out Try.underlying30 rfl HSE.out ?_)
  refine (HTX.out w4).mono ?_
  rintro e w5 ⟨rfl, hb⟩
  have HC5 := Lib.hid (HC4.out.below hb)
  have HB5 := Lib.hid (HB4.out.trans (hb.mono HB4.out.size))
  clear hb HC4 HB4
  cases b with
  | true =>
    rw [if_pos (of_decide_eq_true HBB.out)] at HRD
    go_wp2_with fail
    refine (HRD.out w5).mono ?_
    rintro e w6 ⟨rfl, hb⟩
    have HC6 := Lib.hid (HC5.out.below hb)
    have HB6 := Lib.hid (HB5.out.trans (hb.mono HB5.out.size))
    clear hb HC5 HB5
    unfold DrE
    simp only [Option.getD_some, Option.isSome_some, if_true]
    go_wp2_with (first
      | (refine wpList_alloc_of rfl 30 rfl (entL noE) HZE.out ?_)
      | (refine wpList_store_cells rfl 30 _ _ rfl rfl w6.heap.size (entV noE) (entV E) 30 rfl rfl (heap_alloc_new w6 _) HSE.out HSZ.out (entV_all E) ?_))
    intro w7 hc hb
    have hb7 : Below w6.heap.size w6 w7 := But.toBelow ((Below.refl _ w6).alloc (Nat.le_refl _) _) hb.out (Nat.le_refl _) (by rw [World.size_alloc]; exact Nat.le_succ _)
    have HX7 := Lib.hid hc.out
    have HC7 := Lib.hid (HC6.out.below hb7)
    have HB7 := Lib.hid (HB6.out.trans (hb7.mono HB6.out.size))
    obtain ⟨gx, hgx⟩ : ∃ x, w6.heap.size = x := ⟨_, rfl⟩
    rw [hgx] at HX7 ⊢
    clear hc hb hb7 hgx HC6 HB6
    go_wp2_with (refine wpList_load_cells rfl 30 _ rfl g10 (entV E) 30 _ rfl HC7.out Try.underlying30 rfl HSE.out ?_)
    refine (HGD.out w7).mono ?_
    rintro e w8 ⟨rfl, hb⟩
    have HC8 := Lib.hid (HC7.out.below hb)
    have HX8 := Lib.hid (HX7.out.below hb)
    have HB8 := Lib.hid (HB7.out.trans (hb.mono HB7.out.size))
    clear hb HC7 HX7 HB7
    have heq := HEQ.out
    go_wp2_with (first
      | (refine wpList_load_cells_want (by rfl) 30 _ rfl gx (entV E) 30 _ rfl HX8.out Try.underlying30 rfl HSE.out ?_)
      | (refine wpList_load_cells_want (by rfl) 30 _ rfl g10 (entV E) 30 _ rfl HC8.out Try.underlying30 rfl HSE.out ?_))
    go_ret
    exact ⟨rfl, HB8.out⟩
  | false =>
    rw [if_neg (of_decide_eq_false HBB.out)] at HRD
    go_wp2_with fail
    refine (HRD.out w5).mono ?_
    rintro e w6 ⟨rfl, hb⟩
    have HC6 := Lib.hid (HC5.out.below hb)
    have HB6 := Lib.hid (HB5.out.trans (hb.mono HB5.out.size))
    clear hb HC5 HB5
    unfold DrE
    simp only [Option.getD_none, Option.isSome_none, Bool.false_eq_true, if_false]
    go_wp2_with (first
      | (refine wpList_alloc_of rfl 30 rfl (entL noE) HZE.out ?_)
      | (refine wpList_store_cells rfl 30 _ _ rfl rfl w6.heap.size (entV noE) (entV noE) 30 rfl rfl (heap_alloc_new w6 _) (sizeEV noE_ok) rfl (entV_all noE) ?_))
    intro w7 hc hb
    have hb7 : Below w6.heap.size w6 w7 := But.toBelow ((Below.refl _ w6).alloc (Nat.le_refl _) _) hb.out (Nat.le_refl _) (by rw [World.size_alloc]; exact Nat.le_succ _)
    have HC7 := Lib.hid (HC6.out.below hb7)
    have HB7 := Lib.hid (HB6.out.trans (hb7.mono HB6.out.size))
    clear hc hb hb7 HC6 HB6
    go_wp2_with (refine wpList_load_cells rfl 30 _ rfl g10 (entV E) 30 _ rfl HC7.out Try.underlying30 rfl HSE.out ?_)
    refine (HGD.out w7).mono ?_
    rintro e w8 ⟨rfl, hb⟩
    have HB8 := Lib.hid (HB7.out.trans (hb.mono HB7.out.size))
    clear hb HC7 HB7
    go_wp2_with fail
    go_ret
    exact ⟨rfl, HB8.out⟩
end Go.Proofs.Ytenmkfjgjemiiaa.entryLimits
namespace Go.Proofs.Ytenmkfjgjemiiaa.entryLimits
open Go.ChangeShapes Go.WideShapes Go.ChangeAt Go.RowKit
open Go.ChangeMaps (open_string shut_string)
set_option linter.unusedVariables false
set_option maxRecDepth 100000 in
theorem lifted (os : Os) (started : os.Started) (H : Type) (enc : TypeId × Value → H) :
    ReturnsInHanded {} Try.checked os 7 .any (Rows.entryLimitsSpec.pre6 enc Try.prog Try.f7 Rows.entryLimitsRow.domain false) (Rows.entryLimitsSpec.post enc Try.prog Try.f7 false true false false) := by
  refine returnsInHanded_of_change_sized (C := Try.checked) law_own started (by kernel_rfl) Try.func7
    (ChangeSpec.witness6 (enc := enc) (C := Try.checked) false ⟨#[], #[.int .i64 0, .int .i64 0, .int .i64 0], []⟩ 8 (by kernel_rfl) (by kernel_rfl) (by kernel_rfl) (by kernel_rfl)) ?_
  intro W base args ds gs before hval0 hW hcnd hsz0 _
  have hsz : (DataW.weightsEach Try.prog (Try.f7.params.toList ++ Rows.entryLimitsSpec.plain.varTypes Try.prog) (ds ++ gs)).all (· ≤ reachBytes) = true := hsz0
  have hval : ∀ (j : Nat) t v, Try.f7.params[j]? = some t → args[j]? = some v → Value.okWide Try.prog W .any base t v := hval0
  have hW' := hW
  obtain ⟨p, q, hA0, hV, rfl, hfz, hnd⟩ := hW
  have hA : DataW.TrodAll enc Try.prog W 0 (fun _ => true) true Try.f7.params.toList args.toList ds p := hA0
  rw [Try.params7] at hA hval hsz
  obtain ⟨v0, vs0, d0, ds0, p0, q0, hargs, rfl, rfl, h0, r0⟩ := trodAll_cons hA
  obtain ⟨v1, vs1, d1, ds1, p1, q1, rfl, rfl, rfl, h1, r1⟩ := trodAll_cons r0
  obtain ⟨v2, vs2, d2, ds2, p2, q2, rfl, rfl, rfl, h2, r2⟩ := trodAll_cons r1
  obtain ⟨rfl, rfl, rfl⟩ := trodAll_nil r2
  obtain rfl : args = #[v0, v1, v2] := by cases args; simp_all
  obtain ⟨rfl, rfl⟩ := trodVars_none hV
  obtain ⟨a0, rfl, rfl, rfl, w0⟩ := open_int Try.underlying3 (hval 0 3 v0 rfl rfl) h0
  obtain ⟨a1, rfl, rfl, rfl, w1⟩ := open_int Try.underlying3 (hval 1 3 v1 rfl rfl) h1
  obtain ⟨a2, rfl, rfl, rfl, w2⟩ := open_int Try.underlying3 (hval 2 3 v2 rfl rfl) h2
  clear hA0 hval0
  refine (walk W a0 w0 a1 w1 a2 w2).mono fun e W' ⟨he, bel⟩ => ?_
  subst he
  exact ⟨_, rfl, _, _, _, [], _, [], hW', trodAll_mk1 (shut_bool Try.underlying4 _), (trodAll_cons_mk (shut_int Try.underlying3 w0) (trodAll_cons_mk (shut_int Try.underlying3 w1) (trodAll_cons_mk (shut_int Try.underlying3 w2) trodAll_mk0))), rfl, bel.frame _, fun h => by cases h⟩
theorem proved : Rows.EntryLimitsSaid :=
  OpenClaim.holds_of_wide 7 Try.f7 rfl rfl rfl rfl rfl rfl rfl ⟨rfl, rfl, rfl, rfl, rfl⟩ rfl rfl rfl rfl rfl (by kernel_rfl) Try.func7 (by kernel_rfl)
    (of_decide_eq_true (by kernel_rfl)) (by unfold Func.isWrapper; first | (rw [if_pos (by decide +kernel)]; kernel_rfl) | (rw [if_neg (by decide +kernel)]; exact ⟨rfl, rfl⟩))
    (fun os started H enc _ => lifted os started H enc)
#print axioms proved
end Go.Proofs.Ytenmkfjgjemiiaa.entryLimits
