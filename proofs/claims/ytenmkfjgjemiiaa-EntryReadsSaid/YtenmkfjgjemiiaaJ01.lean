/-
  Joined: Plain mathematics of layer 1's encodings: a number's bytes, what bytes begin with. It knows of no program.; What all walks of this program share: frames, slices of texts, small facts on texts.; What speaks of no program: rows and blocks of numbers, bytes and texts, in the memory; copies, stores, loads; regions whose operations keep a class of worlds.; Operations as plain mathematics: which can be, their bytes, what bytes are.; Entries as plain mathematics: which can be, their bytes, what bytes are.; Regions whose order is open: laws; what every layer over digests wants.; Rows of elements of thirty-two bytes: what lies there, what is pushed, stored and read; a slice of arrays that came in.; Objects that live in memory of their own: what a call turns (Only), what it owns behind it (Turn); rows of values of one cell (RowV).
-/
import Derived.BigQuiet
import Derived.BigRegion
import Derived.ChangeAlike
import Derived.Deep.Cut
import Derived.Deep.MidRow
import Derived.Deep.Quiet
import Derived.Deep.QuietTactic
import Derived.Deep.RegionWith
import Derived.Deep.Slices
import Derived.Great.BuildSlice
import Derived.Laws.BytesString
import Derived.Laws.CopyOwn
import Derived.Laws.ResultCell
import Derived.Laws.Rows
import Derived.Lib.BitFns
import Derived.Lib.BufferWrite
import Derived.Lib.Builder
import Derived.Lib.Hide
import Derived.Maps.AppendAt
import Derived.OpenShut
import Derived.RegionTactic
import Derived.StillTail
import Derived.StillTailTactics
import Derived.Stop.BytesEq
import Derived.Test.YtenmkfjgjemiiaaChecked
import Derived.WalkKit
namespace Go.Proofs.Ytenmkfjgjemiiaa
def dig (n : Nat) : List UInt8 := if _h : n = 0 then [] else dig (n / 256) ++ [UInt8.ofNat (n % 256)]
termination_by n
decreasing_by omega
theorem dig_zero : dig 0 = [] := by unfold dig; simp
theorem dig_pos {n : Nat} (h : n ≠ 0) : dig n = dig (n / 256) ++ [UInt8.ofNat (n % 256)] := by rw [dig]; simp [h]
def val (l : List UInt8) : Nat := l.foldl (fun a d => a * 256 + d.toNat) 0
theorem val_nil : val [] = 0 := rfl
theorem val_snoc (l : List UInt8) (d : UInt8) : val (l ++ [d]) = val l * 256 + d.toNat := by simp [val]
theorem toNat_ofNat_mod (n : Nat) : (UInt8.ofNat (n % 256)).toNat = n % 256 := by simp
theorem val_dig (n : Nat) : val (dig n) = n := by
  induction n using Nat.strongRecOn with
  | ind n ih =>
    by_cases h : n = 0
    · subst h; rw [dig_zero]; rfl
    · rw [dig_pos h, val_snoc, ih (n / 256) (by omega), toNat_ofNat_mod]; omega
def numB (n : Nat) : List UInt8 := UInt8.ofNat (dig n).length :: dig n
theorem dig_length_le (k : Nat) : ∀ n, n < 256 ^ k → (dig n).length ≤ k := by
  induction k with
  | zero => intro n h; have : n = 0 := by simpa using h
            subst this; rw [dig_zero]; simp
  | succ k ih =>
    intro n h
    by_cases h0 : n = 0
    · subst h0; rw [dig_zero]; simp
    · rw [dig_pos h0]
      have h1 : n / 256 < 256 ^ k := by
        rw [Nat.div_lt_iff_lt_mul (by decide)]; rw [Nat.pow_succ] at h; exact h
      have := ih _ h1
      simp; omega
theorem dig_length_ge (k : Nat) : ∀ n, (dig n).length ≤ k → n < 256 ^ k := by
  induction k with
  | zero =>
    intro n h
    by_cases h0 : n = 0
    · subst h0; decide
    · rw [dig_pos h0] at h; simp at h
  | succ k ih =>
    intro n h
    by_cases h0 : n = 0
    · subst h0; exact Nat.pow_pos (by decide)
    · rw [dig_pos h0] at h
      have h1 := ih (n / 256) (by simp at h; omega)
      rw [Nat.pow_succ]
      rwa [Nat.div_lt_iff_lt_mul (by decide)] at h1
theorem dig_length_8 {n : Nat} (h : n < 9223372036854775808) : (dig n).length ≤ 8 :=
  dig_length_le 8 n (Nat.lt_of_lt_of_le h (by decide))
theorem numB_length (n : Nat) : (numB n).length = 1 + (dig n).length := by simp [numB]; omega
theorem numB_length_9 {n : Nat} (h : n < 9223372036854775808) : (numB n).length ≤ 9 := by
  have := dig_length_8 h; rw [numB_length]; omega
theorem numB_pos (n : Nat) : 1 ≤ (numB n).length := by rw [numB_length]; omega
theorem dig_val : ∀ (l : List UInt8), (∀ h : l ≠ [], l.head h ≠ 0) → dig (val l) = l := by
  intro l
  induction hl : l.length using Nat.strongRecOn generalizing l with
  | ind n ih =>
    intro hh
    rcases List.eq_nil_or_concat l with rfl | ⟨t, d, rfl⟩
    · rw [val_nil, dig_zero]
    · rw [List.concat_eq_append] at hh hl ⊢
      have hd := d.toNat_lt
      by_cases ht : t = []
      · subst ht
        simp only [List.nil_append] at hh ⊢
        have h0 : d ≠ 0 := by simpa using hh (by simp)
        have h1 : d.toNat ≠ 0 := fun e => h0 (by rw [← UInt8.toNat_inj]; simpa using e)
        have h2 : val [d] = d.toNat := by simp [val]
        rw [h2, dig_pos h1, show d.toNat / 256 = 0 by omega, dig_zero, show d.toNat % 256 = d.toNat by omega]; simp
      · have ih1 := ih t.length (by rw [← hl]; simp) t rfl (fun h => by
          have := hh (by simp); rwa [List.head_append_of_ne_nil h] at this)
        have hv : val t ≠ 0 := fun e => by rw [e, dig_zero] at ih1; exact ht ih1.symm
        rw [val_snoc, dig_pos (by omega), show (val t * 256 + d.toNat) / 256 = val t by omega, ih1, show (val t * 256 + d.toNat) % 256 = d.toNat by omega]; simp
theorem dig_head (n : Nat) : ∀ h : dig n ≠ [], (dig n).head h ≠ 0 := by
  induction n using Nat.strongRecOn with
  | ind n ih =>
    intro h
    by_cases h0 : n = 0
    · subst h0; exact absurd dig_zero h
    · have e := dig_pos h0
      by_cases h1 : n / 256 = 0
      · have e2 : dig n = [UInt8.ofNat (n % 256)] := by rw [e, h1, dig_zero]; rfl
        simp only [e2, List.head_cons]
        intro e3
        have : (UInt8.ofNat (n % 256)).toNat = 0 := by rw [e3]; rfl
        rw [toNat_ofNat_mod] at this; omega
      · have hn : dig (n / 256) ≠ [] := fun e3 => by rw [dig_pos h1] at e3; simp at e3
        have := ih (n / 256) (by omega) hn
        simp only [e, List.head_append_of_ne_nil hn]; exact this
def takeNum (s : List UInt8) : Option (Nat × List UInt8) :=
  match s with
  | [] => none
  | k :: t => if k.toNat ≤ t.length ∧ val (t.take k.toNat) < 9223372036854775808 ∧ numB (val (t.take k.toNat)) = k :: t.take k.toNat then some (val (t.take k.toNat), t.drop k.toNat) else none
theorem takeNum_numB {n : Nat} (h : n < 9223372036854775808) (r : List UInt8) : takeNum (numB n ++ r) = some (n, r) := by
  have h8 := dig_length_8 h
  have e : (UInt8.ofNat (dig n).length).toNat = (dig n).length := by simp; omega
  simp only [numB, List.cons_append, takeNum, e]
  rw [List.take_left, val_dig, List.drop_left]
  rw [if_pos ⟨by simp, h, rfl⟩]
theorem takeNum_some {s : List UInt8} {n : Nat} {r : List UInt8} (h : takeNum s = some (n, r)) : s = numB n ++ r ∧ n < 9223372036854775808 := by
  cases s with
  | nil => cases h
  | cons k t =>
    simp only [takeNum] at h
    split at h
    · rename_i hc
      simp only [Option.some.injEq, Prod.mk.injEq] at h
      obtain ⟨rfl, rfl⟩ := h
      refine ⟨?_, hc.2.1⟩
      rw [hc.2.2, List.cons_append, List.take_append_drop]
    · cases h
theorem takeNum_lt {s : List UInt8} {n : Nat} {r : List UInt8} (h : takeNum s = some (n, r)) : n < 9223372036854775808 := (takeNum_some h).2
theorem takeNum_len {s : List UInt8} {n : Nat} {r : List UInt8} (h : takeNum s = some (n, r)) : r.length < s.length := by
  rw [(takeNum_some h).1]; have := numB_pos n; simp; omega
def takeText (s : List UInt8) : Option (List UInt8 × List UInt8) :=
  match takeNum s with
  | none => none
  | some (n, r) => if n ≤ r.length then some (r.take n, r.drop n) else none
def textB (t : List UInt8) : List UInt8 := numB t.length ++ t
theorem takeText_textB {t : List UInt8} (h : t.length < 9223372036854775808) (r : List UInt8) : takeText (textB t ++ r) = some (t, r) := by
  simp only [takeText, textB, List.append_assoc, takeNum_numB h]
  rw [if_pos (by simp), List.take_left, List.drop_left]
theorem takeText_some {s t r : List UInt8} (h : takeText s = some (t, r)) : s = textB t ++ r := by
  unfold takeText at h
  split at h
  · cases h
  · rename_i n q hq
    split at h
    · rename_i hn
      simp only [Option.some.injEq, Prod.mk.injEq] at h
      obtain ⟨rfl, rfl⟩ := h
      have := (takeNum_some hq).1
      rw [this, textB, List.length_take, show min n q.length = n by omega, List.append_assoc, List.take_append_drop]
    · cases h
def takeTexts : Nat → List UInt8 → Option (List (List UInt8) × List UInt8)
  | 0, s => some ([], s)
  | k + 1, s =>
    match takeText s with
    | none => none
    | some (t, r) => match takeTexts k r with
      | none => none
      | some (l, q) => some (t :: l, q)
def textsB (l : List (List UInt8)) : List UInt8 := (l.map textB).flatten
theorem textsB_cons (t : List UInt8) (l : List (List UInt8)) : textsB (t :: l) = textB t ++ textsB l := by simp [textsB]
theorem textsB_snoc (t : List UInt8) (l : List (List UInt8)) : textsB (l ++ [t]) = textsB l ++ textB t := by simp [textsB]
theorem takeTexts_textsB : ∀ (l : List (List UInt8)) (r : List UInt8), (∀ t ∈ l, t.length < 9223372036854775808) → takeTexts l.length (textsB l ++ r) = some (l, r) := by
  intro l
  induction l with
  | nil => intro r _; simp [takeTexts, textsB]
  | cons t l ih =>
    intro r h
    simp only [List.length_cons, takeTexts, textsB_cons, List.append_assoc]
    rw [takeText_textB (h t (by simp))]
    simp only [ih r (fun t ht => h t (by simp [ht]))]
theorem takeTexts_some : ∀ (k : Nat) (s : List UInt8) (l : List (List UInt8)) (r : List UInt8), takeTexts k s = some (l, r) → s = textsB l ++ r ∧ l.length = k := by
  intro k
  induction k with
  | zero => intro s l r h; simp only [takeTexts, Option.some.injEq, Prod.mk.injEq] at h; obtain ⟨rfl, rfl⟩ := h; simp [textsB]
  | succ k ih =>
    intro s l r h
    simp only [takeTexts] at h
    split at h
    · cases h
    · rename_i t q hq
      split at h
      · cases h
      · rename_i l' q' hq'
        simp only [Option.some.injEq, Prod.mk.injEq] at h
        obtain ⟨rfl, rfl⟩ := h
        obtain ⟨e1, e2⟩ := ih _ _ _ hq'
        rw [takeText_some hq, e1, textsB_cons, List.append_assoc]
        exact ⟨rfl, by simp [e2]⟩
theorem takeTexts_succ : ∀ (k : Nat) (s : List UInt8), takeTexts (k + 1) s = match takeTexts k s with
    | none => none
    | some (l, r) => match takeText r with
      | none => none
      | some (t, q) => some (l ++ [t], q) := by
  intro k
  induction k with
  | zero => intro s; simp only [takeTexts]; cases takeText s <;> rfl
  | succ k ih =>
    intro s
    rw [takeTexts]
    cases h1 : takeText s with
    | none => simp [takeTexts, h1]
    | some p =>
      obtain ⟨t, r⟩ := p
      simp only [ih r]
      simp only [takeTexts, h1]
      cases h2 : takeTexts k r with
      | none => rfl
      | some p2 =>
        obtain ⟨l, q⟩ := p2
        simp only
        cases h3 : takeText q with
        | none => rfl
        | some p3 => obtain ⟨t3, q3⟩ := p3; rfl
theorem takeTexts_none_mono {k : Nat} {s : List UInt8} (h : takeTexts k s = none) : ∀ m, k ≤ m → takeTexts m s = none := by
  intro m hm
  induction m with
  | zero => have : k = 0 := by omega
            subst this; exact h
  | succ m ih =>
    by_cases e : k = m + 1
    · subst e; exact h
    · rw [takeTexts_succ, ih (by omega)]
def takeList (s : List UInt8) : Option (List (List UInt8) × List UInt8) :=
  match takeNum s with
  | none => none
  | some (n, r) => if n ≤ 4096 then takeTexts n r else none
def listB (l : List (List UInt8)) : List UInt8 := numB l.length ++ textsB l
theorem takeList_listB {l : List (List UInt8)} (hl : l.length ≤ 4096) (h : ∀ t ∈ l, t.length < 9223372036854775808) (r : List UInt8) : takeList (listB l ++ r) = some (l, r) := by
  simp only [takeList, listB, List.append_assoc]
  rw [takeNum_numB (by omega)]
  simp only [hl, if_true, takeTexts_textsB l r h]
theorem takeList_some {s : List UInt8} {l : List (List UInt8)} {r : List UInt8} (h : takeList s = some (l, r)) : s = listB l ++ r ∧ l.length ≤ 4096 := by
  unfold takeList at h
  split at h
  · cases h
  · rename_i n q hq
    split at h
    · rename_i hn
      obtain ⟨e1, e2⟩ := takeTexts_some _ _ _ _ h
      rw [(takeNum_some hq).1, e1, listB, e2, List.append_assoc]
      exact ⟨rfl, by omega⟩
    · cases h
theorem bitLenAux_spec : ∀ (f n : Nat), n < 2 ^ f → (n = 0 → Lib.bitLenAux f n = 0) ∧ (n ≠ 0 → 2 ^ (Lib.bitLenAux f n - 1) ≤ n ∧ n < 2 ^ Lib.bitLenAux f n ∧ 1 ≤ Lib.bitLenAux f n) := by
  intro f
  induction f with
  | zero => intro n h; simp at h; subst h; exact ⟨fun _ => rfl, fun h => absurd rfl h⟩
  | succ f ih =>
    intro n h
    refine ⟨fun e => by subst e; simp [Lib.bitLenAux], fun e => ?_⟩
    have e2 : Lib.bitLenAux (f + 1) n = 1 + Lib.bitLenAux f (n / 2) := by simp [Lib.bitLenAux, e]
    rw [e2]
    have h2 : n / 2 < 2 ^ f := by rw [Nat.pow_succ] at h; omega
    obtain ⟨i0, i1⟩ := ih (n / 2) h2
    by_cases e3 : n / 2 = 0
    · rw [i0 e3]; have : n = 1 := by omega
      subst this; decide
    · obtain ⟨a, b, c⟩ := i1 e3
      generalize Lib.bitLenAux f (n / 2) = m at *
      obtain ⟨q, rfl⟩ : ∃ q, m = q + 1 := ⟨m - 1, by omega⟩
      simp only [Nat.add_sub_cancel] at a
      rw [show 1 + (q + 1) - 1 = q + 1 by omega, show 1 + (q + 1) = q + 1 + 1 by omega, Nat.pow_succ 2 (q + 1), Nat.pow_succ 2 q] at *
      omega
theorem bitLen_le {n : Nat} (h : n < 9223372036854775808) : Lib.bitLen n ≤ 63 := by
  obtain ⟨h0, h1⟩ := bitLenAux_spec 64 n (Nat.lt_of_lt_of_le h (by decide))
  unfold Lib.bitLen
  by_cases e : n = 0
  · rw [h0 e]; omega
  · obtain ⟨a, _, _⟩ := h1 e
    apply Decidable.byContradiction
    intro hc
    have : 2 ^ 63 ≤ 2 ^ (Lib.bitLenAux 64 n - 1) := Nat.pow_le_pow_right (by decide) (by omega)
    have e63 : (2 : Nat) ^ 63 = 9223372036854775808 := by decide
    omega
theorem bitLen_dig {n : Nat} (h : n < 9223372036854775808) : (Lib.bitLen n + 7) / 8 = (dig n).length := by
  obtain ⟨h0, h1⟩ := bitLenAux_spec 64 n (Nat.lt_of_lt_of_le h (by decide))
  unfold Lib.bitLen
  by_cases e : n = 0
  · rw [h0 e, e, dig_zero]; rfl
  · obtain ⟨a, b, c⟩ := h1 e
    generalize Lib.bitLenAux 64 n = m at *
    have p8 : ∀ k, 256 ^ k = 2 ^ (8 * k) := fun k => by rw [show (256 : Nat) = 2 ^ 8 by decide, ← Nat.pow_mul]
    apply Nat.le_antisymm
    · apply Decidable.byContradiction
      intro hc
      have g := dig_length_ge _ n (Nat.le_refl _)
      rw [p8] at g
      have : 2 ^ (8 * (dig n).length) ≤ 2 ^ (m - 1) := Nat.pow_le_pow_right (by decide) (by omega)
      omega
    · apply dig_length_le
      rw [p8]
      exact Nat.lt_of_lt_of_le b (Nat.pow_le_pow_right (by decide) (by omega))
theorem dig_get (n : Nat) : ∀ (j : Nat) (h : j < (dig n).length), ((dig n)[j]).toNat = n / 256 ^ ((dig n).length - 1 - j) % 256 := by
  induction n using Nat.strongRecOn with
  | ind n ih =>
    intro j h
    by_cases h0 : n = 0
    · subst h0; rw [dig_zero] at h; simp at h
    · have e := dig_pos h0
      have hl : (dig n).length = (dig (n / 256)).length + 1 := by rw [e]; simp
      simp only [hl, Nat.add_sub_cancel]
      by_cases hj : j < (dig (n / 256)).length
      · have := ih (n / 256) (by omega) j hj
        simp only [e, List.getElem_append_left hj]
        rw [this, Nat.div_div_eq_div_mul, ← Nat.pow_succ', show ((dig (n / 256)).length - 1 - j).succ = (dig (n / 256)).length - j by omega]
      · have hj2 : j = (dig (n / 256)).length := by omega
        subst hj2
        simp [e]
theorem textsB_append (a b : List (List UInt8)) : textsB (a ++ b) = textsB a ++ textsB b := by simp [textsB]
theorem textsB_parts (l : List (List UInt8)) (q : Nat) (h : q < l.length) : (textsB l).length = (textsB (l.take q)).length + (textB l[q]).length + (textsB (l.drop (q + 1))).length := by
  have e : l = l.take q ++ (l[q] :: l.drop (q + 1)) := by rw [← List.drop_eq_getElem_cons h, List.take_append_drop]
  have := congrArg (fun x => (textsB x).length) e
  simp only [textsB_append, textsB_cons, List.length_append] at this
  omega
theorem textB_length (t : List UInt8) : (textB t).length = (numB t.length).length + t.length := by simp [textB]
theorem listB_length (l : List (List UInt8)) : (listB l).length = (numB l.length).length + (textsB l).length := by simp [listB]
theorem textsB_take_succ (l : List (List UInt8)) (q : Nat) (h : q < l.length) : textsB (l.take (q + 1)) = textsB (l.take q) ++ numB l[q].length ++ l[q] := by
  rw [List.take_succ_eq_append_getElem h, textsB_snoc, textB, List.append_assoc]
theorem takeNum_big {k : UInt8} (t : List UInt8) (h : 8 < k.toNat) : takeNum (k :: t) = none := by
  simp only [takeNum]
  rw [if_neg]
  rintro ⟨h1, h2, h3⟩
  have h4 := dig_length_8 h2
  simp only [numB, List.cons.injEq] at h3
  have h5 := congrArg List.length h3.2
  simp at h5
  omega
theorem takeNum_short {k : UInt8} {t : List UInt8} (h : t.length < k.toNat) : takeNum (k :: t) = none := by
  simp only [takeNum]
  rw [if_neg]
  rintro ⟨h1, _, _⟩
  omega
theorem val_append_ge (a b : List UInt8) (h : b ≠ []) : val a * 256 ≤ val (a ++ b) := by
  rcases List.eq_nil_or_concat b with rfl | ⟨t, d, rfl⟩
  · exact absurd rfl h
  · clear h
    rw [List.concat_eq_append]
    have key : ∀ (t : List UInt8), val a ≤ val (a ++ t) := by
      intro t
      induction hl : t.length using Nat.strongRecOn generalizing t with
      | ind n ih =>
        rcases List.eq_nil_or_concat t with rfl | ⟨t', d', rfl⟩
        · simp
        · rw [List.concat_eq_append, ← List.append_assoc, val_snoc]
          have := ih t'.length (by rw [← hl]; simp) t' rfl
          omega
    rw [← List.append_assoc, val_snoc]
    have := key t
    omega
theorem takeNum_over {k : UInt8} {t : List UInt8} {q : Nat} (hk : k.toNat ≤ t.length) (hq : q < k.toNat) (h : 36028797018963968 ≤ val (t.take q)) : takeNum (k :: t) = none := by
  simp only [takeNum]
  rw [if_neg]
  rintro ⟨_, h2, _⟩
  have e : t.take k.toNat = t.take q ++ (t.take k.toNat).drop q := by
    have := List.take_append_drop q (t.take k.toNat)
    rw [List.take_take, show min q k.toNat = q by omega] at this
    exact this.symm
  have h3 := val_append_ge (t.take q) ((t.take k.toNat).drop q) (by
    intro e2
    have := congrArg List.length e2
    simp at this
    omega)
  rw [← e] at h3
  omega
theorem takeNum_zero {k : UInt8} {t : List UInt8} (hk : k.toNat ≤ t.length) (h0 : 0 < k.toNat) (hz : t[0]'(by omega) = 0) : takeNum (k :: t) = none := by
  simp only [takeNum]
  rw [if_neg]
  rintro ⟨_, h2, h3⟩
  simp only [numB, List.cons.injEq] at h3
  have hne : dig (val (t.take k.toNat)) ≠ [] := by
    rw [h3.2]; intro e
    have h7 : (t.take k.toNat).length = 0 := by rw [e]; rfl
    rw [List.length_take] at h7
    omega
  have := dig_head _ hne
  apply this
  have e2 : ∀ (l : List UInt8) (hl : l ≠ []) (m : List UInt8) (hm : m ≠ []), l = m → l.head hl = m.head hm := by intro l hl m hm e; subst e; rfl
  rw [e2 _ hne (t.take k.toNat) (by rw [← h3.2]; exact hne) h3.2]
  rw [List.head_take, List.head_eq_getElem]
  exact hz
theorem takeNum_good {k : UInt8} {t : List UInt8} (hk : k.toNat ≤ t.length) (hv : val (t.take k.toNat) < 9223372036854775808) (hz : ∀ h : 0 < k.toNat, t[0]'(by omega) ≠ 0) : takeNum (k :: t) = some (val (t.take k.toNat), t.drop k.toNat) := by
  simp only [takeNum]
  rw [if_pos]
  refine ⟨hk, hv, ?_⟩
  have e : dig (val (t.take k.toNat)) = t.take k.toNat := by
    apply dig_val
    intro hne
    have h0 : 0 < k.toNat := by
      rcases Nat.eq_zero_or_pos k.toNat with h | h
      · rw [h] at hne; simp at hne
      · exact h
    rw [List.head_take, List.head_eq_getElem]
    exact hz h0
  rw [numB, e]
  congr 1
  rw [List.length_take, show min k.toNat t.length = k.toNat by omega]
  simp
theorem textsB_length_ge (l : List (List UInt8)) : l.length ≤ (textsB l).length := by
  induction l with
  | nil => simp
  | cons t l ih =>
    rw [textsB_cons, List.length_append, List.length_cons, textB_length]
    have := numB_pos t.length
    omega
theorem listB_length_ge (l : List (List UInt8)) : l.length ≤ (listB l).length := by
  rw [listB_length]; have := textsB_length_ge l; omega
theorem takeTexts_len {k : Nat} {s : List UInt8} {l : List (List UInt8)} {r : List UInt8} (h : takeTexts k s = some (l, r)) : r.length ≤ s.length := by
  have := (takeTexts_some _ _ _ _ h).1
  rw [this]; simp
def splitB (s : List UInt8) : Option (List (List UInt8)) :=
  if 262144 < s.length then none else match takeList s with | some (l, []) => some l | _ => none
theorem splitB_some {s : List UInt8} {l : List (List UInt8)} (h : splitB s = some l) : listB l = s := by
  unfold splitB at h
  split at h
  · cases h
  · cases ht : takeList s with
    | none => rw [ht] at h; cases h
    | some p =>
      obtain ⟨l', r⟩ := p
      rw [ht] at h
      cases r with
      | nil =>
        have e : l' = l := by simpa using h
        subst e
        have := (takeList_some ht).1
        rw [List.append_nil] at this
        exact this.symm
      | cons => cases h
end Go.Proofs.Ytenmkfjgjemiiaa
namespace Go.Proofs.Ytenmkfjgjemiiaa
open Go.RowKit
structure But (b : Nat) (w w' : World) : Prop where
  os : w'.os = w.os
  tape : w'.tape = w.tape
  output : w'.output = w.output
  size : w.heap.size ≤ w'.heap.size
  block : ∀ k, k < w.heap.size → k ≠ b → w'.heap[k]? = w.heap[k]?
theorem But.refl (b : Nat) (w : World) : But b w w := ⟨rfl, rfl, rfl, Nat.le_refl _, fun _ _ _ => rfl⟩
theorem But.trans {b : Nat} {w1 w2 w3 : World} (h : But b w1 w2) (k : But b w2 w3) : But b w1 w3 :=
  ⟨k.os.trans h.os, k.tape.trans h.tape, k.output.trans h.output, Nat.le_trans h.size k.size, fun i hi hb => (k.block i (Nat.lt_of_lt_of_le hi h.size) hb).trans (h.block i hi hb)⟩
theorem But.setCell {b : Nat} {w w' : World} (h : But b w w') (o : Nat) (v : Value) : But b w (w'.setCell ⟨b, o, none⟩ v) :=
  h.trans ⟨rfl, rfl, rfl, by simp [World.setCell], fun k _ hb => Below.heap_setCell _ _ _ _ hb⟩
theorem But.below {b : Nat} {w w1 w2 : World} (h : But b w w1) (k : Below w1.heap.size w1 w2) : But b w w2 :=
  ⟨k.os.trans h.os, k.tape.trans h.tape, k.output.trans h.output, Nat.le_trans h.size k.size, fun i hi hb => (k.block i (Nat.lt_of_lt_of_le hi h.size)).trans (h.block i hi hb)⟩
theorem But.toBelow {b B : Nat} {w0 w w' : World} (h : Below B w0 w) (k : But b w w') (hb : B ≤ b) (hB : B ≤ w.heap.size) : Below B w0 w' :=
  h.trans ⟨k.os, k.tape, k.output, k.size, fun i hi => k.block i (by omega) (by omega)⟩
theorem heap_setCell_at {w : World} {b o : Nat} {v : Value} {c : Array Value} {t : TypeId} {z : Nat × Nat} (h : w.heap[b]? = some (.cells c t z)) :
    (w.setCell ⟨b, o, none⟩ v).heap[b]? = some (.cells (c.setIfInBounds o v) t z) := by
  have hlt := lt_of_block h
  have h' : w.heap[b] = .cells c t z := by simpa [Array.getElem?_eq_getElem hlt] using h
  show (w.heap.modify b _)[b]? = _
  rw [Array.getElem?_eq_getElem (by simpa using hlt), Array.getElem_modify_self, h']
  simp
theorem extract_head (s : List UInt8) (n : Nat) : (⟨s.toArray⟩ : ByteArray).extract 0 n = ⟨(s.take n).toArray⟩ := by
  apply ByteArray.ext
  simp [ByteArray.data_extract]
theorem extract_tail (s : List UInt8) (n : Nat) : (⟨s.toArray⟩ : ByteArray).extract n s.length = ⟨(s.drop n).toArray⟩ := by
  apply ByteArray.ext
  simp only [ByteArray.data_extract]
  rw [List.extract_toArray]
  congr 1
  rw [List.extract_eq_take_drop, List.take_of_length_le (by simp)]
theorem Try.infoString : (Try.prog.info? 9).map (fun i => (i.zero, i.size, i.bytes)) = some (some (.string ⟨#[]⟩), 1, 16) := by kernel_rfl
def strs (l : List (List UInt8)) : List Value := l.map fun t => Value.string ⟨t.toArray⟩
theorem strs_snoc (l : List (List UInt8)) (t : List UInt8) : strs (l ++ [t]) = strs l ++ [.string ⟨t.toArray⟩] := by simp [strs]
theorem strs_length (l : List (List UInt8)) : (strs l).length = l.length := by simp [strs]
def OwnS (B : Nat) (v : Value) (l : List (List UInt8)) (w : World) : Prop := w.ownsRow B 9 1 v l.length (strs l)
theorem OwnS.nil (B : Nat) (w : World) : OwnS B (.slice none 0 0) [] w := World.ownsRow_nil _ _ _ _
theorem OwnS.form {B : Nat} {v : Value} {l : List (List UInt8)} {w : World} (h : OwnS B v l w) : ∃ ao cap, v = .slice ao l.length cap := by
  rcases h.2 with ⟨hv, h0⟩ | ⟨g, cap, cur, hv, _⟩
  · exact ⟨none, 0, by rw [hv, h0]⟩
  · exact ⟨_, _, hv⟩
theorem OwnS.but {B b : Nat} {v : Value} {l : List (List UInt8)} {w w' : World} (h : OwnS B v l w) (k : But b w w') (hb : b < B) : OwnS B v l w' := by
  refine World.ownsRow.kept (row := some b) h ⟨k.os, k.tape, k.output, k.size, fun i hi hne => k.block i hi (fun e => hne (by rw [e]))⟩ ?_
  rcases h.2 with ⟨hv, _⟩ | ⟨g, cap, cur, hv, hg, _⟩
  · exact Or.inl (by rw [hv]; rfl)
  · refine Or.inr ?_
    rw [hv]
    simp only [Value.ownBlock, ne_eq, Option.some.injEq]
    omega
def StrsAt (ao : Option Addr) (l : List (List UInt8)) (w : World) : Prop :=
  l = [] ∨ ∃ b o, ao = some ⟨b, o, none⟩ ∧ b < w.heap.size ∧ ∀ j (h : j < l.length), w.cell? ⟨b, o + j, none⟩ = some (.string ⟨l[j].toArray⟩)
theorem StrsAt.below {ao : Option Addr} {l : List (List UInt8)} {w w' : World} (h : StrsAt ao l w) (k : Below w.heap.size w w') : StrsAt ao l w' := by
  rcases h with h | ⟨b, o, ha, hb, hc⟩
  · exact Or.inl h
  · exact Or.inr ⟨b, o, ha, Nat.lt_of_lt_of_le hb k.size, fun j hj => (k.cell (p := ⟨b, o + j, none⟩) hb).trans (hc j hj)⟩
theorem StrsAt.cell {ao : Option Addr} {l : List (List UInt8)} {w : World} (h : StrsAt ao l w) {q : Nat} (hq : q < l.length) : ∃ b o, ao = some ⟨b, o, none⟩ ∧ w.cell? ⟨b, o + q, none⟩ = some (.string ⟨l[q].toArray⟩) := by
  rcases h with h | ⟨b, o, ha, hb, hc⟩
  · subst h; simp at hq
  · exact ⟨b, o, ha, hc q hq⟩
theorem strsAt_own {B : Nat} {ao : Option Addr} {c : Nat} {l : List (List UInt8)} {w : World} (h : OwnS B (.slice ao l.length c) l w) : StrsAt ao l w := by
  rcases h.2 with ⟨_, h0⟩ | ⟨g, cap, cur, hv, hg, hb, hcap, hm, hcs, htk⟩
  · exact Or.inl (List.length_eq_zero_iff.1 h0)
  · simp only [Value.slice.injEq] at hv
    obtain ⟨rfl, _, rfl⟩ := hv
    refine Or.inr ⟨g, 0, rfl, lt_of_block hb, fun j hj => ?_⟩
    have := Lib.cell_of_heap hb (0 + j)
    rw [this]
    have e := congrArg (fun x => x[j]?) htk
    simp only [List.getElem?_take] at e
    rw [if_pos (by omega)] at e
    rw [Nat.zero_add, ← Array.getElem?_toList, e, strs]
    simp [hj]
theorem OwnS.mono {B B' : Nat} {v : Value} {l : List (List UInt8)} {w : World} (h : OwnS B v l w) (hB : B' ≤ B) : OwnS B' v l w := by
  refine ⟨h.1, ?_⟩
  rcases h.2 with h0 | ⟨g, cap, cur, hv, hg, r⟩
  · exact Or.inl h0
  · exact Or.inr ⟨g, cap, cur, hv, by omega, r⟩
theorem OwnS.below {B : Nat} {v : Value} {l : List (List UInt8)} {w w' : World} (h : OwnS B v l w) (k : Below w.heap.size w w') : OwnS B v l w' := by
  refine World.ownsRow.kept (row := none) h ⟨k.os, k.tape, k.output, k.size, fun i hi _ => k.block i hi⟩ ?_
  rcases h.2 with ⟨hv, _⟩ | ⟨g, cap, cur, hv, hg, _⟩
  · exact Or.inl (by rw [hv]; rfl)
  · exact Or.inr (by rw [hv]; simp [Value.ownBlock])
theorem drawn_below {B : Nat} {w w' : World} (h : Below B w w') (n : Nat) : Below B w (w'.drewN n) := ⟨h.os, h.tape, h.output, h.size, h.block⟩
end Go.Proofs.Ytenmkfjgjemiiaa
namespace Go.Proofs.Ytenmkfjgjemiiaa
open Go.RowKit
def nums (k : IntKind) (l : List Nat) : List Value := l.map fun (n : Nat) => Value.int k (n : Int)
theorem nums_len (k : IntKind) (l : List Nat) : (nums k l).length = l.length := by simp [nums]
def byteNs (s : List UInt8) : List Nat := s.map (fun b => b.toNat)
theorem byteNs_len (s : List UInt8) : (byteNs s).length = s.length := by simp [byteNs]
theorem below_set {B b : Nat} {w0 w : World} (h : Below B w0 w) (hb : B ≤ b) (o : Nat) (v : Value) : Below B w0 (w.setCell ⟨b, o, none⟩ v) :=
  ⟨h.os, h.tape, h.output, by simpa [World.setCell] using h.size, fun k hk => (Below.heap_setCell _ _ _ _ (by show k ≠ b; omega)).trans (h.block k hk)⟩
theorem nums_one (k : IntKind) (l : List Nat) : ∀ u ∈ nums k l, u.oneCell' = true := by
  intro u hu
  simp only [nums, List.mem_map] at hu
  obtain ⟨n, _, rfl⟩ := hu
  rfl
theorem nums_set (k : IntKind) (l : List Nat) (j x : Nat) : (nums k l).set j (.int k (x : Int)) = nums k (l.set j x) := by simp [nums, List.map_set]
def Blk (b : Nat) (t : TypeId) (k : IntKind) (l : List Nat) (w : World) : Prop := w.heap[b]? = some (.cells (nums k l).toArray t (0, 0))
theorem Blk.lt {b : Nat} {t : TypeId} {k : IntKind} {l : List Nat} {w : World} (h : Blk b t k l w) : b < w.heap.size := lt_of_block h
theorem Blk.cell {b : Nat} {t : TypeId} {k : IntKind} {l : List Nat} {w : World} (h : Blk b t k l w) (j : Nat) (hj : j < l.length) : w.cell? ⟨b, j, none⟩ = some (.int k ((l.getD j 0 : Nat) : Int)) := by
  rw [Lib.cell_of_heap h j, List.getElem?_toArray, nums, List.getElem?_map, List.getElem?_eq_getElem hj, List.getD_eq_getElem?_getD, List.getElem?_eq_getElem hj]
  rfl
theorem Blk.frozen {b : Nat} {t : TypeId} {k : IntKind} {l : List Nat} {w : World} (h : Blk b t k l w) (j : Nat) : w.frozen? ⟨b, j, none⟩ = false := frozen_of_row w b j _ t h
theorem Blk.set {b : Nat} {t : TypeId} {k : IntKind} {l : List Nat} {w : World} (h : Blk b t k l w) (j x : Nat) : Blk b t k (l.set j x) (w.setCell ⟨b, j, none⟩ (.int k (x : Int))) := by
  have e := heap_setCell_at (o := j) (v := .int k (x : Int)) h
  rw [List.setIfInBounds_toArray, nums_set] at e
  exact e
theorem Blk.but {b g : Nat} {t : TypeId} {k : IntKind} {l : List Nat} {w w' : World} (h : Blk b t k l w) (hb : But g w w') (hne : b ≠ g) : Blk b t k l w' := (hb.block b h.lt hne).trans h
theorem Blk.alloc {b : Nat} {t : TypeId} {k : IntKind} {l : List Nat} {w : World} (h : Blk b t k l w) (o : Obj) : Blk b t k l (w.alloc o) := (heap_alloc_old w o h.lt).trans h
theorem Blk.row {b : Nat} {t : TypeId} {k : IntKind} {l l' : List Nat} {w : World} (h : Blk b t k l w) : Blk b t k l' (w.setRow b (nums k l').toArray) := setRow_heap _ _ _ _ _ _ h
theorem But.setRow {b : Nat} {w w' : World} (h : But b w w') (cs : Array Value) : But b w (w'.setRow b cs) :=
  h.trans ⟨rfl, rfl, rfl, by simp, fun k _ hb => setRow_other w' b k cs hb⟩
theorem nums_size (k : IntKind) (l : List Nat) : (nums k l).toArray.size = l.length := by simp [nums]
theorem nums_all (k : IntKind) (l : List Nat) : (nums k l).toArray.all (·.oneCell') = true := by
  rw [Array.all_eq_true_iff_forall_mem]
  intro x hx
  exact nums_one k l x (by simpa using hx)
theorem byteCells_nums (l : List UInt8) : Lib.byteCells l = nums .u8 (byteNs l) := by simp [Lib.byteCells, nums, byteNs]
theorem wpList_store_nums {P : Program} {w : World} {ops : Array Oper} {rest : List Oper} {o : Oper} {a : Act} {Q : Exit → Act → World → Prop} (hgd : o.guard = none) (ty : TypeId) (x y : Operand) (ho : o.op = .store ty x y)
    (hd : o.dst = none) (g : Nat) (k : IntKind) (l l' : List Nat) (t : TypeId) (hx : a.eval x = .pointer (some ⟨g, 0, none⟩)) (hy : a.eval y = .agg (nums k l').toArray)
    (hg : Blk g t k l w) (hi : (P.info? ty).map (·.size) = some l'.length) (hl : l.length = l'.length)
    (h : ∀ w', Hid (Blk g t k l' w') → Hid (But g w w') → wpList P ops Q rest a w') : wpList P ops Q (o :: rest) a w :=
  wpList_store_rowTo hgd ty x y ho hd g (nums k l').toArray hx hy t _ hg (by rw [nums_size]; exact hi) (by rw [nums_size, nums_size]; exact hl) (nums_all _ _) (h _ hg.row ((But.refl g w).setRow _))
theorem wpList_load_nums {P : Program} {w : World} {ops : Array Oper} {rest : List Oper} {o : Oper} {a : Act} {Q : Exit → Act → World → Prop} (hgd : o.guard = none) (ty : TypeId) (x : Operand) (ho : o.op = .load ty x)
    (g : Nat) (k : IntKind) (l : List Nat) (t : TypeId) (d : TypeDesc) (hx : a.eval x = .pointer (some ⟨g, 0, none⟩)) (hg : Blk g t k l w)
    (hu : P.underlying ty = some d) (hd : (match d with | .struct _ | .array _ _ => true | _ => false) = true) (hi : (P.info? ty).map (·.size) = some l.length)
    (h : wpList P ops Q rest (a.put o.dst (.agg (nums k l).toArray)) w) : wpList P ops Q (o :: rest) a w :=
  wpList_load_row hgd ty x ho g hx t _ _ d hg hu hd (by rw [nums_size]; exact hi) h
theorem results_nums {P : Program} {fn : Func} {p : Tmp} {ty : TypeId} (h : fn.results = #[.cell p ty]) (tmps : Array Value) (w : World) (g : Nat) (k : IntKind) (l : List Nat) (t : TypeId) (d : TypeDesc)
    (hp : tmps.getD p undef = .pointer (some ⟨g, 0, none⟩)) (hg : Blk g t k l w)
    (hu : P.underlying ty = some d) (hd : (match d with | .struct _ | .array _ _ => true | _ => false) = true) (hi : (P.info? ty).map (·.size) = some l.length) :
    (results fn tmps).run P w = .ok (.agg (nums k l).toArray) w :=
  results_cell_row h tmps w g t _ (0, 0) d hp hg hu hd (by rw [nums_size]; exact hi)
theorem byteNs_lt (r : List UInt8) : ∀ x ∈ byteNs r, x < 256 := by
  intro x h
  simp only [byteNs, List.mem_map] at h
  obtain ⟨b, _, rfl⟩ := h
  exact b.toNat_lt
def txt (l : List Nat) : List UInt8 := l.map UInt8.ofNat
theorem txt_len (l : List Nat) : (txt l).length = l.length := by simp [txt]
theorem byteNs_txt {l : List Nat} (h : ∀ x ∈ l, x < 256) : byteNs (txt l) = l := by
  induction l with
  | nil => rfl
  | cons y l ih =>
    have hy := h y (by simp)
    simp only [txt, byteNs, List.map_cons, List.map_map] at ih ⊢
    rw [ih (fun z hz => h z (by simp [hz]))]
    congr 1
    rw [UInt8.toNat_ofNat']
    omega
theorem byteNs_nums (s : List UInt8) : nums .u8 (byteNs s) = s.map fun b => Value.int .u8 (b.toNat : Int) := by simp [nums, byteNs]
theorem txt_inj {l m : List Nat} (hl : ∀ x ∈ l, x < 256) (hm : ∀ x ∈ m, x < 256) (h : txt l = txt m) : l = m := by
  rw [← byteNs_txt hl, ← byteNs_txt hm, h]
theorem txt_byteNs (s : List UInt8) : txt (byteNs s) = s := by
  induction s with
  | nil => rfl
  | cons b s ih =>
    rw [byteNs, List.map_cons, txt, List.map_cons, show UInt8.ofNat b.toNat = b by simp]
    exact congrArg _ ih
theorem cells_txt {l : List Nat} (h : ∀ x ∈ l, x < 256) : nums .u8 l = (txt l).map Extern.Stop.cell := by
  have e : (txt l).map Extern.Stop.cell = nums .u8 (byteNs (txt l)) := (byteNs_nums (txt l)).symm
  rw [e, byteNs_txt h]
theorem txt_beq {a b : List Nat} (la : ∀ x ∈ a, x < 256) (lb : ∀ x ∈ b, x < 256) : (txt a == txt b) = (a == b) := by
  rw [Bool.eq_iff_iff, beq_iff_eq, beq_iff_eq]
  exact ⟨txt_inj la lb, fun h => by rw [h]⟩
theorem equal_nums {P : Program} (t e : TypeId) (n : Nat) (ht : P.underlying t = some (.array n e)) (he : P.underlying e = some (.int .u8)) (hsz : ∀ w, (sizeOf e).run P w = .ok 1 w)
    (a b : List Nat) (ha : a.length = n) (hb : b.length = n) (la : ∀ x ∈ a, x < 256) (lb : ∀ x ∈ b, x < 256) (w : World) :
    (Op.equalIn 10000 t (.agg (nums .u8 a).toArray) (.agg (nums .u8 b).toArray)).run P w = .ok (a == b) w := by
  rw [cells_txt la, cells_txt lb, run_equalIn_bytes w 9998 t e n ht he hsz (txt a) (txt b) (by rw [txt_len, ha]) (by rw [txt_len, hb]), txt_beq la lb]
theorem wp_region_class {P : Program} {id : Nat} {Q : Exit → Act → World → Prop} {a : Act} {w : World} {l : List Oper} (C : World → Prop) (hm : P.follows .mixedOrders = true) (hB : Region.lexB .any l.toArray = true) (hC : C w.drew)
    (h : wpQuiet P l.toArray C (fun a' => ∀ w', C w' → Q .normal a' w') l a) : (Code.region id l.toArray true).wp P Q a w :=
  wp_region_quiet (C := C) hm hB hC (by simpa using h)
end Go.Proofs.Ytenmkfjgjemiiaa
namespace Go.Proofs.Ytenmkfjgjemiiaa
open Go.RowKit
structure DraftN where
  kind : Int
  key : List UInt8
  val : List UInt8
  ref : List Nat
deriving DecidableEq
structure OpN where
  d : DraftN
  author : Int
  depth : Int
  preds : List (List Nat)
deriving DecidableEq
def IdOk (l : List Nat) : Prop := l.length = 32 ∧ ∀ x ∈ l, x < 256
def zeroI : List Nat := List.replicate 32 0
theorem zeroI_ok : IdOk zeroI := ⟨List.length_replicate, fun x hx => by rw [(List.mem_replicate.1 hx).2]; decide⟩
def cmpN : List Nat → List Nat → Int
  | a :: x, b :: y => if a < b then -1 else if b < a then 1 else cmpN x y
  | _, _ => 0
def GoodD (d : DraftN) : Prop := 1 ≤ d.kind ∧ d.kind ≤ 5 ∧ 1 ≤ d.key.length ∧ d.key.length ≤ 16 ∧ d.val.length ≤ 64 ∧ (d.kind ≤ 3 → d.ref = zeroI) ∧ (d.kind = 5 → d.ref ≠ zeroI ∧ d.val = [])
instance (d : DraftN) : Decidable (GoodD d) := by unfold GoodD; infer_instance
def AscN (L : List (List Nat)) : Prop := ∀ i, i < L.length → 0 < i → cmpN (L.getD (i - 1) []) (L.getD i []) = -1
instance (L : List (List Nat)) : Decidable (AscN L) := by unfold AscN; infer_instance
def GoodO (o : OpN) : Prop := AscN o.preds ∧ (o.preds = [] → o.depth = 1) ∧ (o.preds ≠ [] → 2 ≤ o.depth) ∧ o.preds.length ≤ 32 ∧ GoodD o.d ∧ 0 ≤ o.author ∧ o.author ≤ 4
instance (o : OpN) : Decidable (GoodO o) := by unfold GoodO; infer_instance
def draftB (d : DraftN) : List UInt8 := listB [numB d.kind.toNat, d.key, d.val, txt d.ref]
theorem listB_inj {a b : List (List UInt8)} (ha : a.length ≤ 4096) (hb : b.length ≤ 4096) (la : ∀ t ∈ a, t.length < 9223372036854775808) (lb : ∀ t ∈ b, t.length < 9223372036854775808) (h : listB a = listB b) : a = b := by
  have h1 := takeList_listB ha la []
  have h2 := takeList_listB hb lb []
  rw [List.append_nil] at h1 h2
  rw [h, h2] at h1
  simp only [Option.some.injEq, Prod.mk.injEq, and_true] at h1
  exact h1.symm
theorem splitB_listB {l : List (List UInt8)} (hl : l.length ≤ 4096) (h : (listB l).length ≤ 262144) : splitB (listB l) = some l := by
  have ht : ∀ t ∈ l, t.length < 9223372036854775808 := fun t ht => by
    have h1 := listB_length l
    have h2 : t.length ≤ (textsB l).length := by
      obtain ⟨q, hq, rfl⟩ := List.getElem_of_mem ht
      have := textsB_parts l q hq
      have := textB_length l[q]
      omega
    omega
  have h1 := takeList_listB hl ht []
  rw [List.append_nil] at h1
  unfold splitB
  rw [if_neg (by omega), h1]
def allNum (s : List UInt8) : Option Nat := match takeNum s with | some (n, []) => some n | _ => none
def readD (s : List UInt8) : Option DraftN := match splitB s with
  | some [k, key, val, r] => if r.length = 32 then (match allNum k with
    | some n => if GoodD ⟨n, key, val, byteNs r⟩ then some ⟨n, key, val, byteNs r⟩ else none
    | none => none) else none
  | _ => none
theorem allNum_numB {n : Nat} (h : n < 9223372036854775808) : allNum (numB n) = some n := by
  have := takeNum_numB h []
  rw [List.append_nil] at this
  rw [allNum, this]
theorem allNum_some {s : List UInt8} {n : Nat} (h : allNum s = some n) : numB n = s ∧ n < 9223372036854775808 := by
  unfold allNum at h
  split at h
  · rename_i m hm
    simp only [Option.some.injEq] at h
    subst h
    have := takeNum_some hm
    rw [List.append_nil] at this
    exact ⟨this.1.symm, this.2⟩
  · cases h
theorem readD_some {s : List UInt8} {d : DraftN} (h : readD s = some d) : draftB d = s ∧ GoodD d ∧ IdOk d.ref ∧ d.kind < 9223372036854775808 := by
  unfold readD at h
  split at h
  · rename_i k key val r hs
    split at h
    · rename_i hr
      split at h
      · rename_i n hn
        split at h
        · rename_i hg
          simp only [Option.some.injEq] at h
          subst h
          obtain ⟨h1, h2⟩ := allNum_some hn
          refine ⟨?_, hg, ⟨by rw [byteNs_len, hr], byteNs_lt _⟩, by simp only; omega⟩
          rw [draftB]
          simp only [Int.toNat_natCast, txt_byteNs, h1]
          exact splitB_some hs
        · cases h
      · cases h
    · cases h
  · cases h
theorem draftB_len (d : DraftN) : (draftB d).length = 2 + (numB (numB d.kind.toNat).length).length + (numB d.kind.toNat).length + (textB d.key).length + (textB d.val).length + (textB (txt d.ref)).length := by
  rw [draftB, listB_length]
  simp only [List.length_cons, List.length_nil, Nat.zero_add, Nat.reduceAdd, textsB_cons, List.length_append]
  have e : (numB 4).length = 2 := by simp [numB, dig]
  have e2 : (textsB []).length = 0 := rfl
  rw [e, e2, textB_length (numB _)]
  omega
theorem textB_le9 {t : List UInt8} (h : t.length < 9223372036854775808) : (textB t).length ≤ t.length + 9 := by
  have := numB_length_9 h
  rw [textB_length]
  omega
theorem numB_len9 {n : Nat} (h : n < 9223372036854775808) : (numB n).length ≤ 9 := numB_length_9 h
theorem draftB_le {d : DraftN} (hk : d.kind < 9223372036854775808) (h1 : d.key.length ≤ 512) (h2 : d.val.length ≤ 512) (h3 : d.ref.length = 32) : (draftB d).length ≤ 1200 := by
  have e := draftB_len d
  have a1 := numB_len9 (n := d.kind.toNat) (by omega)
  have a2 := numB_len9 (n := (numB d.kind.toNat).length) (by omega)
  have a3 := textB_le9 (t := d.key) (by omega)
  have a4 := textB_le9 (t := d.val) (by omega)
  have a5 := textB_le9 (t := txt d.ref) (by rw [txt_len]; omega)
  rw [txt_len] at a5
  omega
theorem readD_draftB {d : DraftN} (hk : 0 ≤ d.kind ∧ d.kind < 9223372036854775808) (h1 : d.key.length ≤ 512) (h2 : d.val.length ≤ 512) (h3 : IdOk d.ref) : readD (draftB d) = if GoodD d then some d else none := by
  have hl := draftB_le hk.2 h1 h2 h3.1
  have hs : splitB (draftB d) = some [numB d.kind.toNat, d.key, d.val, txt d.ref] := splitB_listB (by simp) (by rw [← draftB]; omega)
  have hd : (⟨((d.kind.toNat : Nat) : Int), d.key, d.val, byteNs (txt d.ref)⟩ : DraftN) = d := by rw [byteNs_txt h3.2, Int.toNat_of_nonneg hk.1]
  unfold readD
  rw [hs]
  simp only
  rw [if_pos (by rw [txt_len]; exact h3.1), allNum_numB (by omega)]
  simp only [hd]
end Go.Proofs.Ytenmkfjgjemiiaa
namespace Go.Proofs.Ytenmkfjgjemiiaa
open Go.RowKit
structure EntN where
  kind : Int
  d : DraftN
  src : Int
  seq : Int
  prev : List Nat
  mask : Int
  pay : List UInt8
  sig : List UInt8
deriving DecidableEq
structure EntN.Ok (e : EntN) : Prop where
  ref : IdOk e.d.ref
  prev : IdOk e.prev
def noD : DraftN := ⟨0, [], [], zeroI⟩
def noE : EntN := ⟨0, noD, 0, 0, zeroI, 0, [], []⟩
theorem noE_ok : noE.Ok := ⟨zeroI_ok, zeroI_ok⟩
theorem noD_bad : ¬ GoodD noD := fun h => by have := h.1; simp [noD] at this
def OutE (e : EntN) : Prop := 1 ≤ e.mask ∧ e.mask ≤ 31 ∧ e.pay.length ≤ 2048
def BareE (e : EntN) : Prop := e.src = 0 ∧ e.seq = 0 ∧ e.prev = zeroI ∧ e.sig = []
def GoodE (e : EntN) : Prop :=
  (e.kind = 1 ∧ GoodD e.d ∧ BareE e ∧ e.mask = 0 ∧ e.pay = []) ∨
  (e.kind = 2 ∧ OutE e ∧ e.d = noD ∧ 0 ≤ e.src ∧ e.src ≤ 4 ∧ 1 ≤ e.seq ∧ e.sig.length ≤ 1024) ∨
  (e.kind = 3 ∧ OutE e ∧ e.d = noD ∧ BareE e)
instance (e : EntN) : Decidable (OutE e) := by unfold OutE; infer_instance
instance (e : EntN) : Decidable (BareE e) := by unfold BareE; infer_instance
instance (e : EntN) : Decidable (GoodE e) := by unfold GoodE; infer_instance
def partsE (e : EntN) : List (List UInt8) :=
  if e.kind = 1 then [numB 1, draftB e.d]
  else if e.kind = 2 then [numB 2, numB e.src.toNat, numB e.seq.toNat, txt e.prev, numB e.mask.toNat, e.pay, e.sig]
  else [numB 3, numB e.mask.toNat, e.pay]
def entB (e : EntN) : List UInt8 := if GoodE e then listB (partsE e) else []
def entsB (L : List EntN) : List UInt8 := listB (L.map entB)
def numI (s : List UInt8) : Int := match allNum s with | some n => n | none => -1
def candE : List (List UInt8) → EntN
  | [k, t] => if numI k = 1 then ⟨1, (readD t).getD noD, 0, 0, zeroI, 0, [], []⟩ else noE
  | [k, m, p] => if numI k = 3 then ⟨3, noD, 0, 0, zeroI, numI m, p, []⟩ else noE
  | [k, f, q, r, m, p, g] => if numI k = 2 ∧ r.length = 32 then ⟨2, noD, numI f, numI q, byteNs r, numI m, p, g⟩ else noE
  | _ => noE
def readE (s : List UInt8) : Option EntN := match splitB s with
  | some l => if GoodE (candE l) then some (candE l) else none
  | none => none
def readEs : List (List UInt8) → Option (List EntN)
  | [] => some []
  | t :: r => match readE t, readEs r with
    | some o, some l => some (o :: l)
    | _, _ => none
def readAllE (s : List UInt8) : Option (List EntN) := match splitB s with
  | some l => readEs l
  | none => none
theorem noE_bad : ¬ GoodE noE := by
  rintro (h | h | h)
  · exact absurd h.1 (by decide)
  · exact absurd h.1 (by decide)
  · exact absurd h.1 (by decide)
theorem numI_numB {n : Nat} (h : n < 9223372036854775808) : numI (numB n) = n := by rw [numI, allNum_numB h]
theorem numI_some {s : List UInt8} {n : Int} (h : numI s = n) (h0 : 0 ≤ n) : numB n.toNat = s ∧ n < 9223372036854775808 := by
  unfold numI at h
  split at h
  · rename_i m hm
    obtain ⟨h1, h2⟩ := allNum_some hm
    subst h
    exact ⟨by rw [Int.toNat_natCast]; exact h1, by omega⟩
  · omega
theorem numI_low (s : List UInt8) : -1 ≤ numI s ∧ numI s < 9223372036854775808 := by
  unfold numI
  split
  · rename_i m hm
    have := (allNum_some hm).2
    omega
  · omega
theorem entB_good {e : EntN} (h : GoodE e) : entB e = listB (partsE e) := if_pos h
theorem entB_bad {e : EntN} (h : ¬ GoodE e) : entB e = [] := if_neg h
theorem listB_ne (l : List (List UInt8)) : listB l ≠ [] := fun h => by
  have h1 := listB_length l
  have h2 := numB_length l.length
  rw [h] at h1
  simp only [List.length_nil] at h1
  omega
theorem readE_some {s : List UInt8} {e : EntN} (h : readE s = some e) : entB e = s ∧ GoodE e ∧ e.Ok := by
  unfold readE at h
  split at h
  · rename_i l hs
    split at h
    · rename_i hg
      simp only [Option.some.injEq] at h
      subst h
      rw [entB_good hg]
      have hb := splitB_some hs
      match l, hg, hb with
      | [], hg, _ => exact absurd hg noE_bad
      | [_], hg, _ => exact absurd hg noE_bad
      | [k, t], hg, hb =>
        simp only [candE] at hg ⊢
        by_cases hk : numI k = 1
        · rw [if_pos hk] at hg ⊢
          obtain ⟨hk1, _⟩ := numI_some hk (by decide)
          cases hd : readD t with
          | none =>
            rw [hd] at hg
            rcases hg with hg | hg | hg
            · exact absurd hg.2.1 noD_bad
            · exact absurd hg.1 (by simp)
            · exact absurd hg.1 (by simp)
          | some d =>
            rw [hd] at hg
            obtain ⟨d1, d2, d3, d4⟩ := readD_some hd
            simp only [Option.getD_some] at hg ⊢
            refine ⟨?_, hg, d3, zeroI_ok⟩
            rw [← hb]
            simp only [partsE, if_true, d1]
            rw [show numB 1 = k from hk1]
        · rw [if_neg hk] at hg
          exact absurd hg noE_bad
      | [k, m, p], hg, hb =>
        simp only [candE] at hg ⊢
        by_cases hk : numI k = 3
        · rw [if_pos hk] at hg ⊢
          obtain ⟨hk1, _⟩ := numI_some hk (by decide)
          have hg' := hg
          rcases hg with hg | hg | hg
          · exact absurd hg.1 (by simp)
          · exact absurd hg.1 (by simp)
          · obtain ⟨hm1, _⟩ := numI_some (s := m) rfl (by have := hg.2.1.1; simp only at this; omega)
            refine ⟨?_, hg', zeroI_ok, zeroI_ok⟩
            rw [← hb]
            simp only [partsE]
            rw [if_neg (by decide), if_neg (by decide), hm1, show numB 3 = k from hk1]
        · rw [if_neg hk] at hg
          exact absurd hg noE_bad
      | [_, _, _, _], hg, _ => exact absurd hg noE_bad
      | [_, _, _, _, _], hg, _ => exact absurd hg noE_bad
      | [_, _, _, _, _, _], hg, _ => exact absurd hg noE_bad
      | [k, f, q, r, m, p, g], hg, hb =>
        simp only [candE] at hg ⊢
        by_cases hk : numI k = 2 ∧ r.length = 32
        · rw [if_pos hk] at hg ⊢
          obtain ⟨hk1, _⟩ := numI_some hk.1 (by decide)
          have hg' := hg
          rcases hg with hg | hg | hg
          · exact absurd hg.1 (by simp)
          · obtain ⟨_, ⟨h1, h2, h3⟩, _, h4, h5, h6, h7⟩ := hg
            simp only at h1 h2 h3 h4 h5 h6 h7
            obtain ⟨hm1, _⟩ := numI_some (s := m) rfl (by omega)
            obtain ⟨hf1, _⟩ := numI_some (s := f) rfl (by omega)
            obtain ⟨hq1, _⟩ := numI_some (s := q) rfl (by omega)
            refine ⟨?_, hg', zeroI_ok, by show (byteNs r).length = 32; rw [byteNs_len, hk.2], byteNs_lt _⟩
            rw [← hb]
            simp only [partsE]
            rw [if_neg (by decide), if_pos trivial, hm1, hf1, hq1, txt_byteNs, show numB 2 = k from hk1]
          · exact absurd hg.1 (by simp)
        · rw [if_neg hk] at hg
          exact absurd hg noE_bad
      | _ :: _ :: _ :: _ :: _ :: _ :: _ :: _ :: _, hg, _ => exact absurd hg noE_bad
    · cases h
  · cases h
structure EntN.Fit (e : EntN) : Prop where
  ok : e.Ok
  seq : e.seq < 9223372036854775808
theorem partsE_le {e : EntN} (h : GoodE e) (hf : e.Fit) : (listB (partsE e)).length ≤ 8000 := by
  rw [listB_length]
  have e2 : (textsB []).length = 0 := rfl
  have n9 : ∀ n, n < 9223372036854775808 → (numB n).length ≤ 9 := fun n h => numB_len9 h
  have t9 : ∀ t : List UInt8, t.length < 9223372036854775808 → (textB t).length ≤ t.length + 9 := fun t h => textB_le9 h
  have hs := hf.seq
  rcases h with ⟨hk, hd, -, -, -⟩ | ⟨hk, ⟨h1, h2, h3⟩, -, h4, h5, h6, h7⟩ | ⟨hk, ⟨h1, h2, h3⟩, -, -⟩
  · have hd1 : (draftB e.d).length ≤ 1200 := draftB_le (by have := hd.2.1; omega) (by have := hd.2.2.2.1; omega) (by have := hd.2.2.2.2.1; omega) hf.ok.ref.1
    have a1 := n9 1 (by decide)
    have a2 := t9 (numB 1) (by omega)
    have a3 := t9 (draftB e.d) (by omega)
    have a4 := n9 2 (by decide)
    rw [partsE, if_pos hk]
    simp only [List.length_cons, List.length_nil, Nat.zero_add, Nat.reduceAdd, textsB_cons, List.length_append, e2]
    omega
  · have a1 := n9 2 (by decide)
    have a2 := t9 (numB 2) (by omega)
    have b1 := n9 e.src.toNat (by omega)
    have b2 := t9 (numB e.src.toNat) (by omega)
    have c1 := n9 e.seq.toNat (by omega)
    have c2 := t9 (numB e.seq.toNat) (by omega)
    have d1 := n9 e.mask.toNat (by omega)
    have d2 := t9 (numB e.mask.toNat) (by omega)
    have p1 : (txt e.prev).length = 32 := by rw [txt_len]; exact hf.ok.prev.1
    have p2 := t9 (txt e.prev) (by omega)
    have p3 := t9 e.pay (by omega)
    have p4 := t9 e.sig (by omega)
    have a4 := n9 7 (by decide)
    rw [partsE, if_neg (by omega), if_pos hk]
    simp only [List.length_cons, List.length_nil, Nat.zero_add, Nat.reduceAdd, textsB_cons, List.length_append, e2]
    omega
  · have a1 := n9 3 (by decide)
    have a2 := t9 (numB 3) (by omega)
    have d1 := n9 e.mask.toNat (by omega)
    have d2 := t9 (numB e.mask.toNat) (by omega)
    have p3 := t9 e.pay (by omega)
    rw [partsE, if_neg (by omega), if_neg (by omega)]
    simp only [List.length_cons, List.length_nil, Nat.zero_add, Nat.reduceAdd, textsB_cons, List.length_append, e2]
    omega
theorem partsE_len (e : EntN) : (partsE e).length ≤ 7 := by
  unfold partsE
  split
  · simp
  · split <;> simp
theorem candE_partsE {e : EntN} (h : GoodE e) (hf : e.Fit) : candE (partsE e) = e := by
  obtain ⟨kind, d, src, seq, prev, mask, pay, sig⟩ := e
  have hs := hf.seq
  have hp := hf.ok.prev
  have hr := hf.ok.ref
  simp only at hs hp hr
  rcases h with ⟨hk, hd, ⟨b1, b2, b3, b4⟩, hm, hy⟩ | ⟨hk, ⟨h1, h2, h3⟩, hd, h4, h5, h6, h7⟩ | ⟨hk, ⟨h1, h2, h3⟩, hd, b1, b2, b3, b4⟩
  · simp only at hk hd b1 b2 b3 b4 hm hy
    subst hk b1 b2 b3 b4 hm hy
    have h1 : readD (draftB d) = some d := by
      rw [readD_draftB ⟨by have := hd.1; omega, by have := hd.2.1; omega⟩ (by have := hd.2.2.2.1; omega) (by have := hd.2.2.2.2.1; omega) hr, if_pos hd]
    simp only [partsE, if_true, candE]
    rw [if_pos (show numI (numB 1) = 1 from numI_numB (by decide)), h1]
    rfl
  · simp only at hk h1 h2 h3 hd h4 h5 h6 h7
    subst hk hd
    simp only [partsE]
    rw [if_neg (by decide), if_pos trivial]
    simp only [candE]
    rw [if_pos ⟨show numI (numB 2) = 2 from numI_numB (by decide), by rw [txt_len]; exact hp.1⟩, numI_numB (by omega), numI_numB (by omega), numI_numB (by omega), byteNs_txt hp.2]
    simp only [EntN.mk.injEq, true_and, and_true]
    omega
  · simp only at hk h1 h2 h3 hd b1 b2 b3 b4
    subst hk hd b1 b2 b3 b4
    simp only [partsE]
    rw [if_neg (by decide), if_neg (by decide)]
    simp only [candE]
    rw [if_pos (show numI (numB 3) = 3 from numI_numB (by decide)), numI_numB (by omega)]
    simp only [EntN.mk.injEq, true_and, and_true]
    omega
theorem readE_nil : readE [] = none := by decide +kernel
theorem readE_entB {e : EntN} (hf : e.Fit) : readE (entB e) = if GoodE e then some e else none := by
  by_cases h : GoodE e
  · rw [if_pos h, entB_good h, readE, splitB_listB (Nat.le_trans (partsE_len e) (by decide)) (Nat.le_trans (partsE_le h hf) (by decide))]
    simp only
    rw [candE_partsE h hf, if_pos h]
  · rw [if_neg h, entB_bad h, readE_nil]
theorem readEs_iff : ∀ (l : List (List UInt8)) (L : List EntN), readEs l = some L ↔ l.map readE = L.map some
  | [], L => by
    rw [readEs, List.map_nil]
    constructor
    · intro h
      cases h
      rfl
    · intro h
      rw [List.map_eq_nil_iff.1 h.symm]
  | t :: r, L => by
    rw [readEs, List.map_cons]
    cases ho : readE t with
    | none =>
      constructor
      · intro h
        cases h
      · intro h
        cases L with
        | nil => cases h
        | cons a L => simp only [List.map_cons, List.cons.injEq] at h; cases h.1
    | some o =>
      cases hr : readEs r with
      | none =>
        constructor
        · intro h
          cases h
        · intro h
          cases L with
          | nil => cases h
          | cons a L =>
            simp only [List.map_cons, List.cons.injEq] at h
            rw [(readEs_iff r L).2 h.2] at hr
            cases hr
      | some R =>
        have hR := (readEs_iff r R).1 hr
        constructor
        · intro h
          simp only [Option.some.injEq] at h
          subst h
          rw [List.map_cons, hR]
        · intro h
          cases L with
          | nil => cases h
          | cons a L =>
            simp only [List.map_cons, List.cons.injEq, Option.some.injEq] at h
            have h2 := (readEs_iff r L).2 h.2
            rw [hr] at h2
            rw [h.1, Option.some.inj h2]
theorem readEs_bad {l : List (List UInt8)} {k : Nat} (hk : k < l.length) (h : readE l[k] = none) : readEs l = none := by
  cases ha : readEs l with
  | none => rfl
  | some L =>
    have h1 := congrArg (fun x => x[k]?) ((readEs_iff l L).1 ha)
    simp only [List.getElem?_map, List.getElem?_eq_getElem hk, Option.map_some, h] at h1
    cases hL : L[k]? with
    | none => rw [hL] at h1; cases h1
    | some y => rw [hL] at h1; simp at h1
theorem readEs_some : ∀ {l : List (List UInt8)} {L : List EntN}, readEs l = some L → L.map entB = l ∧ ∀ o ∈ L, GoodE o ∧ o.Ok
  | [], L, h => by
    simp only [readEs, Option.some.injEq] at h
    subst h
    exact ⟨rfl, fun o ho => by cases ho⟩
  | t :: r, L, h => by
    unfold readEs at h
    split at h
    · rename_i o l ho hl
      simp only [Option.some.injEq] at h
      subst h
      obtain ⟨h1, h2⟩ := readEs_some hl
      obtain ⟨h3, h4⟩ := readE_some ho
      refine ⟨by rw [List.map_cons, h1, h3], fun q hq => ?_⟩
      rcases List.mem_cons.1 hq with rfl | hq
      · exact h4
      · exact h2 q hq
    · cases h
theorem readAllE_some {s : List UInt8} {L : List EntN} (h : readAllE s = some L) : entsB L = s ∧ ∀ o ∈ L, GoodE o ∧ o.Ok := by
  unfold readAllE at h
  split at h
  · rename_i l hs
    obtain ⟨h1, h2⟩ := readEs_some h
    exact ⟨by rw [entsB, h1]; exact splitB_some hs, h2⟩
  · cases h
theorem readE_seq {s : List UInt8} {e : EntN} (h : readE s = some e) : e.seq < 9223372036854775808 := by
  have key : ∀ l : List (List UInt8), (candE l).seq < 9223372036854775808 := fun l => by
    have z : (0 : Int) < 9223372036854775808 := by decide
    match l with
    | [] => exact z
    | [_] => exact z
    | [k, t] => simp only [candE]; split <;> exact z
    | [k, m, p] => simp only [candE]; split <;> exact z
    | [_, _, _, _] => exact z
    | [_, _, _, _, _] => exact z
    | [_, _, _, _, _, _] => exact z
    | [k, f, q, r, m, p, g] =>
      simp only [candE]
      split
      · exact (numI_low q).2
      · exact z
    | _ :: _ :: _ :: _ :: _ :: _ :: _ :: _ :: _ => exact z
  unfold readE at h
  split at h
  · split at h
    · simp only [Option.some.injEq] at h
      subst h
      exact key _
    · cases h
  · cases h
theorem readE_fit {s : List UInt8} {e : EntN} (h : readE s = some e) : e.Fit := ⟨(readE_some h).2.2, readE_seq h⟩
theorem readAllE_fit {s : List UInt8} {L : List EntN} (h : readAllE s = some L) : ∀ o ∈ L, o.Fit := by
  unfold readAllE at h
  split at h
  · rename_i l hs
    have h1 := (readEs_iff l L).1 h
    intro x hx
    have hm : some x ∈ L.map some := List.mem_map.2 ⟨x, hx, rfl⟩
    rw [← h1] at hm
    obtain ⟨t, _, ht⟩ := List.mem_map.1 hm
    exact readE_fit ht
  · cases h
theorem readAllE_len {s : List UInt8} {L : List EntN} (h : readAllE s = some L) : L.length ≤ 262144 := by
  unfold readAllE at h
  split at h
  · rename_i l hs
    have h1 := congrArg List.length ((readEs_iff l L).1 h)
    rw [List.length_map, List.length_map] at h1
    have h2 := splitB_some hs
    have h3 := listB_length_ge l
    have h4 : s.length ≤ 262144 := by
      unfold splitB at hs
      split at hs
      · cases hs
      · omega
    rw [h2] at h3
    omega
  · cases h
end Go.Proofs.Ytenmkfjgjemiiaa
namespace Go.Proofs.Ytenmkfjgjemiiaa
open Go.RowKit
section
variable {P : Program} {ops : Array Oper} {md : Region.Mode} {C : World → Prop}
def headIn (P : Program) (md : Region.Mode) (ops : Array Oper) (C : World → Prop) (n : Nat) (L : Array Bool → Act → Prop) : Nat → Array Bool → Act → Prop
  | 0, seen, a => L seen a
  | f + 1, seen, a => Region.ready md ops seen ≠ [] ∧ ∀ i, i ∈ Region.ready md ops seen → i < n ∧ qOp P ops C i (headIn P md ops C n L f (seen.setIfInBounds i true)) a
theorem any_of_headIn {n g : Nat} {L : Array Bool → Act → Prop} {Q : Exit → Act → World → Prop} (hL : ∀ seen a w, C w → L seen a → wpAny P md ops Q g seen a w) (f : Nat) :
    ∀ (seen : Array Bool) (a : Act) (w : World), C w → headIn P md ops C n L f seen a → wpAny P md ops Q (f + g) seen a w := by
  induction f with
  | zero => intro seen a w hw h; rw [Nat.zero_add]; exact hL seen a w hw h
  | succ f ih =>
    intro seen a w hw h
    rw [Nat.add_right_comm]
    exact ⟨fun e => (h.1 e).elim, fun i hi => wpOp_of_qOp hw (fun a' w' hw' h' => ih _ a' w' hw' h') (h.2 i hi).2⟩
theorem headIn_first {n i : Nat} {o : Oper} {v : Value} {L : Array Bool → Act → Prop} (ho : ops[i]? = some o) (hns : Region.noSelect ops = true) (hsink : Region.sinkB md ops n = true) (hchain : Region.chainB md ops n = true) (hn : n < ops.size) (hi : i < n)
    (hend : ∀ seen a, L seen a → ∀ j ∈ Region.ready md ops seen, n ≤ j) (f : Nat) :
    ∀ (seen : Array Bool) (a : Act), HeadInv md ops n seen →
      (∀ j p, ops[j]? = some p → j ≠ i → seen.getD j true = false → (∀ e ∈ p.after, Region.binds md e = true → e.on ≠ i) → o.apart ops p = true) →
      i ∈ Region.ready md ops seen → YieldsIn P ops C o v a → headIn P md ops C n L f (seen.setIfInBounds i true) (a.put o.dst v) → headIn P md ops C n L (f + 1) seen a := by
  have hsel := Region.noSelect_spec hns
  induction f with
  | zero =>
    intro seen a inv _ hr hy H
    refine ⟨List.ne_nil_of_mem hr, fun j hj => ?_⟩
    have hjn : j < n := Nat.lt_of_not_le fun h => tail_waits hsink hchain hn inv _ i rfl hi (mem_ready.1 hr).1 j h hj
    refine ⟨hjn, ?_⟩
    by_cases e : j = i
    · subst e
      exact hy.qOp ho H
    · exact absurd (hend _ _ H j (ready_mono hj e)) (by omega)
  | succ f ih =>
    intro seen a inv hfree hr hy H
    refine ⟨List.ne_nil_of_mem hr, fun j hj => ?_⟩
    have hjn : j < n := Nat.lt_of_not_le fun h => tail_waits hsink hchain hn inv _ i rfl hi (mem_ready.1 hr).1 j h hj
    refine ⟨hjn, ?_⟩
    by_cases e : j = i
    · subst e
      exact hy.qOp ho H
    · obtain ⟨hjs, p, hp, hall⟩ := mem_ready.1 hj
      have hno : ∀ x ∈ p.after, Region.binds md x = true → x.on ≠ i := fun x hx hb ex => by
        have h1 := hall x hx hb
        rw [ex, getD_both (mem_ready.1 hr).1] at h1
        cases h1
      refine qOp_mono (fun a' h3 => ?_) (qOp_put hp (hfree j p hp e hjs hno) (fun cs b => hsel i o cs b ho) (fun cs b => hsel j p cs b hp) hy (H.2 j (ready_mono hj e)).2)
      refine ih _ a' (inv.set hj hjn) (fun k q hq hk hs hnk => ?_) (ready_mono hr (Ne.symm e)) h3.1 ?_
      · refine hfree k q hq hk ?_ hnk
        by_cases ek : j = k
        · subst ek; exact hjs
        · rwa [getD_set_ne true ek] at hs
      · rw [Array.setIfInBounds_comm _ _ e]
        exact h3.2
theorem headIn_lex {n g : Nat} {M : Act → Prop} (hns : Region.noSelect ops = true) (hsink : Region.sinkB md ops n = true) (hchain : Region.chainB md ops n = true) (hn : n < ops.size) (l : List Oper) :
    ∀ (k : Nat) (seen : Array Bool) (a : Act), (∀ j, j < l.length → l[j]? = ops[k + j]?) → k + l.length = n → HeadInv md ops n seen → Region.lexHead md ops g l.length k seen = true → wpQuiet P ops C M l a →
    headIn P md ops C n (fun seen' a' => Region.seqB md ops g n seen' = true ∧ M a') l.length seen a := by
  induction l with
  | nil =>
    intro k seen a _ hk _ hB h
    obtain rfl : k = n := hk
    exact ⟨hB, h⟩
  | cons o l ih =>
    intro k seen a hl hk inv hB h
    have ho : ops[k]? = some o := by simpa using (hl 0 (by simp)).symm
    have hlen : (o :: l).length = l.length + 1 := rfl
    rw [hlen] at hk hB
    simp only [Region.lexHead, Bool.and_eq_true] at hB
    have hkr : k ∈ Region.ready md ops seen := by simpa using hB.1.1
    obtain ⟨v, hy, hK⟩ := yieldsIn_of_qOp ho (show qOp P ops C k (wpQuiet P ops C M l) a by unfold qOp; simp only [ho]; exact h)
    refine headIn_first ho hns hsink hchain hn (by omega) (fun seen' a' hL => seqB_ready hL.1) l.length seen a inv (Region.free_spec ho hB.1.2) hkr hy (ih (k + 1) _ _ (fun j hj => ?_) (by omega) (inv.set hkr (by omega)) hB.2 hK)
    have := hl (j + 1) (by simp; omega)
    rw [List.getElem?_cons_succ] at this
    rw [this]
    congr 1
    omega
theorem wp_region_class_tail {id : Nat} {Q : Exit → Act → World → Prop} {a : Act} {w : World} {l : List Oper} (C : World → Prop) (n : Nat) (hm : P.follows .mixedOrders = true) (hB : Region.lexTailB .any l.toArray n = true) (hC : C w.drew)
    (h : wpQuiet P l.toArray C (fun a' => ∀ w', C w' → wpList P l.toArray Q (l.drop n) a' w') (l.take n) a) : (Code.region id l.toArray true).wp P Q a w := by
  simp only [Region.lexTailB, Bool.and_eq_true, decide_eq_true_eq] at hB
  obtain ⟨⟨⟨⟨hns, hn⟩, hsink⟩, hchain⟩, hlex⟩ := hB
  have hsz : l.toArray.size = l.length := by simp
  have ht : (l.take n).length = n := by rw [List.length_take]; omega
  have hd : (l.drop n).length = l.toArray.size - n := by rw [List.length_drop, hsz]
  have inv : HeadInv .any l.toArray n (Array.replicate l.toArray.size false) :=
    ⟨Array.size_replicate, fun j p _ hs => (by rw [getD_replicate_false] at hs; cases hs), fun t _ ht' => getD_in (by rw [Array.size_replicate]; exact ht') (getD_replicate_false _ _)⟩
  have H := headIn_lex (md := .any) (g := l.toArray.size - n) hns hsink hchain hn (l.take n) 0 _ a (fun j hj => by
    rw [ht] at hj
    simp [hj]) (by omega) inv (by rw [ht]; exact hlex) h
  have A := any_of_headIn (Q := Q) (g := l.toArray.size - n) (fun seen a' w' hw' hL => by
    have := wpAny_of_seq (md := .any) (Q' := Q) (l.drop n) n seen a' w' (fun j => by simp [List.getElem?_drop]) (by rw [hd]; exact hL.1) (hL.2 w' hw')
    rwa [hd] at this) _ _ a w.drew hC H
  rw [ht, show n + (l.toArray.size - n) = l.toArray.size by omega] at A
  exact wp_region_any hm A
end
end Go.Proofs.Ytenmkfjgjemiiaa
namespace Go.Proofs.Ytenmkfjgjemiiaa
open Go.RowKit
section
variable {P : Program} {ops : Array Oper} {md : Region.Mode}
def left (seen : Array Bool) (n : Nat) : Nat := (List.range n).countP fun i => !seen.getD i false
theorem left_zero {seen : Array Bool} {n : Nat} (h : left seen n = 0) (i : Nat) (hi : i < n) : seen.getD i false = true := by
  have := List.countP_eq_zero.1 h i (List.mem_range.2 hi)
  simpa using this
theorem left_set {seen : Array Bool} {i : Nat} (hs : i < seen.size) (hu : seen.getD i false = false) : ∀ n, i < n → left (seen.setIfInBounds i true) n + 1 = left seen n := by
  intro n
  induction n with
  | zero => intro h; omega
  | succ n ih =>
    intro h
    simp only [left, List.range_succ, List.countP_append, List.countP_cons, List.countP_nil] at ih ⊢
    by_cases e : i = n
    · subst e
      have h1 : (seen.setIfInBounds i true).getD i false = true := by simp [hs]
      have h2 : (List.range i).countP (fun j => !(seen.setIfInBounds i true).getD j false) = (List.range i).countP (fun j => !seen.getD j false) := by
        refine List.countP_congr fun j hj => ?_
        rw [getD_set_ne false (by have := List.mem_range.1 hj; omega)]
      rw [h1, h2, hu]
      simp
    · have h1 : (seen.setIfInBounds i true).getD n false = seen.getD n false := getD_set_ne false e
      rw [h1]
      have := ih (by omega)
      omega
theorem left_least {seen : Array Bool} : ∀ {n : Nat}, left seen n ≠ 0 → ∃ k, k < n ∧ seen.getD k false = false ∧ ∀ j, j < k → seen.getD j false = true := by
  intro n
  induction n with
  | zero => intro h; exact absurd rfl h
  | succ n ih =>
    intro h
    by_cases h0 : left seen n = 0
    · refine ⟨n, by omega, ?_, left_zero h0⟩
      simp only [left, List.range_succ, List.countP_append, List.countP_cons, List.countP_nil] at h h0
      cases hs : seen.getD n false with
      | false => rfl
      | true => exact absurd h0 (by rw [hs] at h; simpa using h)
    · obtain ⟨k, hk, h1, h2⟩ := ih h0
      exact ⟨k, by omega, h1, h2⟩
theorem lexHead_spec {g : Nat} (f : Nat) : ∀ (k : Nat) (seen : Array Bool), seen.size = ops.size → (∀ j, seen.getD j false = decide (j < k)) → k + f ≤ ops.size → Region.lexHead md ops g f k seen = true →
    (∀ j, k ≤ j → j < k + f → ∃ o, ops[j]? = some o ∧ ∀ e ∈ o.after, Region.binds md e = true → e.on < j) ∧ ∃ full : Array Bool, full.size = ops.size ∧ (∀ j, full.getD j false = decide (j < k + f)) ∧ Region.seqB md ops g (k + f) full = true := by
  induction f with
  | zero => intro k seen hz hs _ hB; exact ⟨fun j h1 h2 => by omega, seen, hz, hs, hB⟩
  | succ f ih =>
    intro k seen hz hs hf hB
    simp only [Region.lexHead, Bool.and_eq_true] at hB
    have hkr : k ∈ Region.ready md ops seen := by simpa using hB.1.1
    obtain ⟨_, o, ho, hall⟩ := mem_ready.1 hkr
    obtain ⟨h1, full, h2, h3, h4⟩ := ih (k + 1) (seen.setIfInBounds k true) (by simpa using hz) (fun j => by
      by_cases e : k = j
      · subst e
        have : k < seen.size := by omega
        simp [this]
      · rw [getD_set_ne false e, hs j]
        exact decide_eq_decide.2 (by omega)) (by omega) hB.2
    refine ⟨fun j hj1 hj2 => ?_, full, h2, fun j => by rw [h3 j]; exact decide_eq_decide.2 (by omega), by rw [show k + (f + 1) = k + 1 + f by omega]; exact h4⟩
    by_cases e : j = k
    · subst e
      refine ⟨o, ho, fun x hx hb => ?_⟩
      have := hall x hx hb
      rw [hs] at this
      simpa using this
    · exact h1 j (by omega) (by omega)
theorem wp_region_inv {id : Nat} {Q : Exit → Act → World → Prop} {a : Act} {w : World} {l : List Oper} (n : Nat) (Inv : Array Bool → Act → World → Prop) (hm : P.follows .mixedOrders = true) (hB : Region.lexTailB .any l.toArray n = true)
    (h0 : Inv (Array.replicate l.toArray.size false) a w.drew)
    (hstep : ∀ seen a w i, i < n → i ∈ Region.ready .any l.toArray seen → i < seen.size → Inv seen a w → wpOp P l.toArray Q i (fun a' w' => Inv (seen.setIfInBounds i true) a' w') a w)
    (hend : ∀ seen a w, (∀ i, i < n → seen.getD i false = true) → Inv seen a w → wpList P l.toArray Q (l.drop n) a w) : (Code.region id l.toArray true).wp P Q a w := by
  simp only [Region.lexTailB, Bool.and_eq_true, decide_eq_true_eq] at hB
  obtain ⟨⟨⟨⟨hns, hn⟩, hsink⟩, hchain⟩, hlex⟩ := hB
  have hsz : l.toArray.size = l.length := by simp
  have hd : (l.drop n).length = l.toArray.size - n := by rw [List.length_drop, hsz]
  obtain ⟨hdeps, full, hfz, hfull, hseq⟩ := lexHead_spec (md := .any) (ops := l.toArray) n 0 _ Array.size_replicate (fun j => by rw [getD_replicate_false]; simp) (by omega) hlex
  rw [Nat.zero_add] at hseq
  have key : ∀ r seen a w, HeadInv .any l.toArray n seen → left seen n = r → Inv seen a w → wpAny P .any l.toArray Q (r + (l.toArray.size - n)) seen a w := by
    intro r
    induction r with
    | zero =>
      intro seen a w inv hr hI
      have hall := left_zero hr
      have hsame : seen = full := by
        refine Array.ext (by rw [inv.size, hfz]) fun j h1 h2 => ?_
        have e1 := hfull j
        have e2 : seen.getD j false = decide (j < 0 + n) := by
          by_cases hj : j < n
          · rw [hall j hj]; simp [hj]
          · have := getD_both (inv.tail j (by omega) (by rw [← inv.size]; exact h1))
            rw [this]; simp [hj]
        rw [← e1] at e2
        simpa [h1, h2] using e2
      have := wpAny_of_seq (md := .any) (Q' := Q) (l.drop n) n seen a w (fun j => by simp [List.getElem?_drop]) (by rw [hd, hsame]; exact hseq) (hend seen a w hall hI)
      rw [hd] at this
      rw [Nat.zero_add]
      exact this
    | succ r ih =>
      intro seen a w inv hr hI
      rw [Nat.add_right_comm]
      obtain ⟨k, hk, hku, hkl⟩ := left_least (seen := seen) (n := n) (by omega)
      have hks : k < seen.size := by rw [inv.size]; omega
      have hkr : k ∈ Region.ready .any l.toArray seen := by
        obtain ⟨o, ho, hb⟩ := hdeps k (by omega) (by omega)
        exact mem_ready.2 ⟨getD_in hks hku, o, ho, fun e he hbe => hkl _ (hb e he hbe)⟩
      refine ⟨fun e => (by rw [e] at hkr; cases hkr), fun i hi => ?_⟩
      have hin : i < n := Nat.lt_of_not_le fun h => tail_waits hsink hchain hn inv _ k rfl hk (getD_in hks hku) i h hi
      have his : i < seen.size := by rw [inv.size]; omega
      refine wpOp_mono (fun a' w' hI' => ih _ a' w' (inv.set hi hin) ?_ hI') (hstep seen a w i hin hi his hI)
      have := left_set his (getD_both (mem_ready.1 hi).1) n hin
      omega
  have inv0 : HeadInv .any l.toArray n (Array.replicate l.toArray.size false) :=
    ⟨Array.size_replicate, fun j p _ hs => (by rw [getD_replicate_false] at hs; cases hs), fun t _ ht' => getD_in (by rw [Array.size_replicate]; exact ht') (getD_replicate_false _ _)⟩
  have H := key n _ a w.drew inv0 (by
    have : ∀ m, left (Array.replicate l.toArray.size false) m = m := fun m => by
      unfold left
      rw [List.countP_eq_length.2 (fun i _ => by rw [getD_replicate_false]; rfl), List.length_range]
    exact this n) h0
  rw [show n + (l.toArray.size - n) = l.toArray.size by omega] at H
  exact wp_region_any hm H
end
end Go.Proofs.Ytenmkfjgjemiiaa
namespace Go.Proofs.Ytenmkfjgjemiiaa
open Go.RowKit
section
variable {P : Program}
def putAll : List Oper → (Nat → Value) → Act → Act
  | [], _, a => a
  | o :: l, V, a => putAll l (fun i => V (i + 1)) (a.put o.dst (V 0))
def apartB : List Oper → Bool
  | [] => true
  | o :: l => l.all (fun p => !(o.dst == p.dst)) && apartB l
def upd (V : Nat → Value) (i : Nat) (v : Value) : Nat → Value := fun j => if j = i then v else V j
theorem upd_same (V : Nat → Value) (i : Nat) (v : Value) : upd V i v i = v := by simp [upd]
theorem upd_ne (V : Nat → Value) {i j : Nat} (v : Value) (h : j ≠ i) : upd V i v j = V j := by simp [upd, h]
theorem put_put (a : Act) (d : Option Tmp) (u v : Value) : (a.put d u).put d v = a.put d v := by
  cases d with
  | none => rfl
  | some d => simp [Act.put]
theorem putAll_put (l : List Oper) (o : Oper) (v : Value) (h : l.all (fun p => !(o.dst == p.dst)) = true) : ∀ (V : Nat → Value) (a : Act), putAll l V (a.put o.dst v) = (putAll l V a).put o.dst v := by
  induction l with
  | nil => intro V a; rfl
  | cons p l ih =>
    intro V a
    simp only [List.all_cons, Bool.and_eq_true] at h
    rw [putAll, putAll, Act.put_comm a v (V 0) (fun d hd e => by rw [hd, e] at h; simp at h), ih h.2]
theorem putAll_upd (l : List Oper) (h : apartB l = true) : ∀ (i : Nat) (o : Oper) (v : Value) (V : Nat → Value) (a : Act), l[i]? = some o → putAll l (upd V i v) a = (putAll l V a).put o.dst v := by
  induction l with
  | nil => intro i o v V a ho; simp at ho
  | cons p l ih =>
    intro i o v V a ho
    simp only [apartB, Bool.and_eq_true] at h
    cases i with
    | zero =>
      obtain rfl : p = o := by simpa using ho
      rw [putAll, putAll, ← putAll_put l p v h.1, put_put]
      rfl
    | succ i =>
      rw [putAll, putAll, ← ih h.2 i o v (fun j => V (j + 1)) _ (by simpa using ho)]
      congr 1
      funext j
      simp [upd]
structure OpWp (P : Program) (o : Oper) (a : Act) (w : World) (K : Act → World → Prop) (Q : Exit → Act → World → Prop) : Prop where
  out : Oper.wp P o a w K Q
structure FreeStep (P : Program) (ops : Array Oper) (Q : Exit → Act → World → Prop) (F : (Nat → Value) → Act) (Inv : (Nat → Bool) → (Nat → Value) → World → Prop) (o : Oper) (i : Nat) : Prop where
  go : ∀ s V w, (∀ e ∈ o.after, Region.binds .any e = true → s e.on = true) → s i = false → Inv s V w →
    ∀ K : Act → World → Prop, (∀ v w', Inv (fun j => s j || j == i) (upd V i v) w' → K ((F V).put o.dst v) w') →
      if Region.wanted o (yielded ops (F V).tmps) = true then Oper.wp P o (F V) w K Q else K ((F V).put o.dst undef) w
def FreeSteps (P : Program) (ops : Array Oper) (Q : Exit → Act → World → Prop) (F : (Nat → Value) → Act) (Inv : (Nat → Bool) → (Nat → Value) → World → Prop) : List Oper → Nat → Prop
  | [], _ => True
  | o :: l, i => FreeStep P ops Q F Inv o i ∧ FreeSteps P ops Q F Inv l (i + 1)
theorem FreeSteps.nil {ops : Array Oper} {Q : Exit → Act → World → Prop} {F : (Nat → Value) → Act} {Inv : (Nat → Bool) → (Nat → Value) → World → Prop} {i : Nat} : FreeSteps P ops Q F Inv [] i := trivial
theorem FreeSteps.cons {ops : Array Oper} {Q : Exit → Act → World → Prop} {F : (Nat → Value) → Act} {Inv : (Nat → Bool) → (Nat → Value) → World → Prop} {o : Oper} {l : List Oper} {i : Nat} (h : FreeStep P ops Q F Inv o i) (hs : FreeSteps P ops Q F Inv l (i + 1)) : FreeSteps P ops Q F Inv (o :: l) i := ⟨h, hs⟩
theorem FreeStep.fresh {ops : Array Oper} {Q : Exit → Act → World → Prop} {F : (Nat → Value) → Act} {Inv : (Nat → Bool) → (Nat → Value) → World → Prop} {o : Oper} {i : Nat} (hg : o.guard = none)
    (h : ∀ s V w, (∀ e ∈ o.after, Region.binds .any e = true → s e.on = true) → s i = false → Inv s V w → ∀ K : Act → World → Prop, (∀ v w', Inv (fun j => s j || j == i) (upd V i v) w' → K ((F V).put o.dst v) w') → OpWp P o (F V) w K Q) : FreeStep P ops Q F Inv o i := ⟨fun s V w hr hu hI K hK => by
  have hw : Region.wanted o (yielded ops (F V).tmps) = true := by simp [Region.wanted, hg]
  rw [if_pos hw]
  exact (h s V w hr hu hI K hK).out⟩
theorem FreeSteps.get {ops : Array Oper} {Q : Exit → Act → World → Prop} {F : (Nat → Value) → Act} {Inv : (Nat → Bool) → (Nat → Value) → World → Prop} (l : List Oper) : ∀ (i k : Nat) (o : Oper), FreeSteps P ops Q F Inv l k → l[i]? = some o → FreeStep P ops Q F Inv o (k + i) := by
  induction l with
  | nil => intro i k o _ ho; simp at ho
  | cons p l ih =>
    intro i k o h ho
    cases i with
    | zero =>
      obtain rfl : p = o := by simpa using ho
      exact h.1
    | succ i =>
      have := ih i (k + 1) o h.2 (by simpa using ho)
      rwa [show k + 1 + i = k + (i + 1) by omega] at this
theorem wp_region_free {id : Nat} {Q : Exit → Act → World → Prop} {a : Act} {w : World} {l : List Oper} (n : Nat) (Inv : (Nat → Bool) → (Nat → Value) → World → Prop) (V0 : Nat → Value) (hm : P.follows .mixedOrders = true) (hB : Region.lexTailB .any l.toArray n = true) (hd : apartB (l.take n) = true)
    (ha : putAll (l.take n) V0 a = a) (h0 : Inv (fun _ => false) V0 w.drew)
    (hstep : FreeSteps P l.toArray Q (fun V => putAll (l.take n) V a) Inv (l.take n) 0)
    (hend : ∀ s V w, (∀ i, i < n → s i = true) → Inv s V w → wpList P l.toArray Q (l.drop n) (putAll (l.take n) V a) w) : (Code.region id l.toArray true).wp P Q a w := by
  have hn : n < l.length := by
    simp only [Region.lexTailB, Bool.and_eq_true, decide_eq_true_eq] at hB
    simpa using hB.1.1.1.2
  refine wp_region_inv n (fun seen a' w' => ∃ V, a' = putAll (l.take n) V a ∧ Inv (fun j => seen.getD j false) V w') hm hB ⟨V0, ha.symm, ?_⟩ ?_ ?_
  · rw [show (fun j => (Array.replicate l.toArray.size false).getD j false) = fun _ => false from funext fun j => getD_replicate_false _ _]
    exact h0
  · rintro seen a' w' i hi hr hs ⟨V, rfl, hI⟩
    obtain ⟨hu, o, ho, hall⟩ := mem_ready.1 hr
    have ho' : (l.take n)[i]? = some o := by
      rw [List.getElem?_take, if_pos hi]
      simpa using ho
    have hF := FreeSteps.get (l.take n) i 0 o hstep ho'
    rw [Nat.zero_add] at hF
    have e : (fun j => (seen.setIfInBounds i true).getD j false) = fun j => seen.getD j false || j == i := funext fun j => by
      by_cases hj : i = j
      · subst hj; simp [hs]
      · rw [getD_set_ne false hj]
        have : (j == i) = false := by simp; omega
        rw [this, Bool.or_false]
    have hF2 := hF.go _ V w' hall (getD_both hu) hI (fun a'' w'' => ∃ V, a'' = putAll (l.take n) V a ∧ Inv (fun j => (seen.setIfInBounds i true).getD j false) V w'') (fun v w'' h => ⟨upd V i v, (putAll_upd _ hd i o v V a ho').symm, by rw [e]; exact h⟩)
    unfold wpOp
    simp only [ho]
    split
    · rename_i hw
      rw [if_pos hw] at hF2
      exact .inl hF2
    · rename_i hw
      rw [if_neg hw] at hF2
      exact hF2
  · rintro seen a' w' hall ⟨V, rfl, hI⟩
    exact hend _ V w' (fun i hi => hall i hi) hI
theorem wpList_load_want {w : World} {ops : Array Oper} {rest : List Oper} {o : Oper} {a : Act} {Q : Exit → Act → World → Prop} (hw : Region.wanted o (yielded ops a.tmps) = true) (ty : TypeId) (x : Operand) (ho : o.op = .load ty x)
    (g : Nat) (k : IntKind) (l : List Nat) (t : TypeId) (d : TypeDesc) (hx : a.eval x = .pointer (some ⟨g, 0, none⟩)) (hg : Blk g t k l w)
    (hu : P.underlying ty = some d) (hd : (match d with | .struct _ | .array _ _ => true | _ => false) = true) (hi : (P.info? ty).map (·.size) = some l.length)
    (h : wpList P ops Q rest (a.put o.dst (.agg (nums k l).toArray)) w) : wpList P ops Q (o :: rest) a w :=
  BigFrame.wpList_want hw fun _ hK => wp_load_row ty x ho g hx t _ _ d hg hu hd (by rw [nums_size]; exact hi) (hK _ _ h)
theorem op_move {o : Oper} {a : Act} {w : World} {K : Act → World → Prop} {Q : Exit → Act → World → Prop} (x : Operand) (ho : o.op = .move x) (v : Value) (hx : a.eval x = v) (h : K (a.put o.dst v) w) : OpWp P o a w K Q := by
  refine ⟨?_⟩
  unfold Oper.wp execOp
  simp only [ho, hx, Sem.run_pure]
  exact h
structure Shut (p : Prop) : Prop where
  out : p
theorem op_call {o : Oper} {a : Act} {w : World} {K : Act → World → Prop} {Q : Exit → Act → World → Prop} {f : FuncId} {fn : Func} (hf : P.funcs[f]? = some fn) (hname : (fn.name == "runtime.NumGoroutine") = false) (hb : fn.body.isNone = false)
    {args : Array Operand} {ts : Array TypeId} (ho : o.op = .call { callee := .value (.func f), args := args, argTypes := ts }) (vs : List Value) (hv : args.toList.map a.eval = vs) {C : Ending → World → Prop}
    (hc : Calls P f vs.toArray w C) (h : ∀ e w', C e w' → ∃ v, e = .returned v ∧ K (a.put o.dst v) w') : OpWp P o a w K Q := by
  have hr : (execOp a.eval o).run P w = .ok (.enter f vs.toArray) w := by
    obtain ⟨dst, op, ty, pos, after, guard⟩ := o
    simp only at ho
    subst ho
    rw [execOp_call_go, show args.map a.eval = vs.toArray by rw [← hv, ← Array.toList_map, Array.toArray_toList], Array.append_empty, Array.empty_append]
    have h1 : ¬ fn.name = "runtime.NumGoroutine" := by simpa using hname
    have h2 : ¬ fn.body = none := by intro e; rw [e] at hb; cases hb
    simp [callFunc, Sem.run_bind, hf, h1, h2, go_sem]
  refine ⟨?_⟩
  unfold Oper.wp
  rw [hr, Oper.upon_enter]
  refine hc.mono fun e w' he => ?_
  obtain ⟨v, rfl, hk⟩ := h e w' he
  exact hk
theorem op_alloc {o : Oper} {a : Act} {w : World} {K : Act → World → Prop} {Q : Exit → Act → World → Prop} (ty : TypeId) (ho : o.op = .alloc ty) (z : Array Value) (hz : ∀ w, (Instr.alloc ty true (.tuple #[])).run P w = .ok (.pointer (some ⟨w.heap.size, 0, none⟩)) (w.alloc (.cells z ty)))
    (h : K (a.put o.dst (.pointer (some ⟨w.heap.size, 0, none⟩))) (w.alloc (.cells z ty))) : OpWp P o a w K Q := by
  refine ⟨?_⟩
  unfold Oper.wp execOp
  simp only [ho, Sem.run_bind, Sem.run_pure, Result.andThen_ok, hz]
  exact h
def Cells (b : Nat) (t : TypeId) (cs : Array Value) (w : World) : Prop := w.heap[b]? = some (.cells cs t (0, 0))
theorem Cells.lt {b : Nat} {t : TypeId} {cs : Array Value} {w : World} (h : Cells b t cs w) : b < w.heap.size := lt_of_block h
theorem Cells.below {b : Nat} {t : TypeId} {cs : Array Value} {w w' : World} (h : Cells b t cs w) (hb : Below w.heap.size w w') : Cells b t cs w' := (hb.block b h.lt).trans h
theorem Cells.but {b g : Nat} {t : TypeId} {cs : Array Value} {w w' : World} (h : Cells b t cs w) (hb : But g w w') (hne : b ≠ g) : Cells b t cs w' := (hb.block b h.lt hne).trans h
theorem quiet_load_cells {o : Oper} {a : Act} {C : World → Prop} {K : Act → Prop} (ty : TypeId) (x : Operand) (ho : o.op = .load ty x) (b : Nat) (cs : Array Value) (t : TypeId) (d : TypeDesc)
    (hx : a.eval x = .pointer (some ⟨b, 0, none⟩)) (hC : ∀ w, C w → Cells b t cs w) (hu : P.underlying ty = some d) (hd : (match d with | .struct _ | .array _ _ => true | _ => false) = true) (hi : (P.info? ty).map (·.size) = some cs.size)
    (hk : K (a.put o.dst (.agg cs))) : o.quiet P a C K := by
  refine ⟨_, fun w hw => ?_, hk⟩
  unfold Oper.quietAt execOp
  simp only [ho, hx, Instr.loadAt, Instr.sureAddr, Sem.run_bind, Sem.run_pure, Result.andThen_ok, run_loadVar_row w b t ty _ (0, 0) d (hC w hw) hu hd hi]
  exact ⟨rfl, rfl⟩
theorem wpList_load_cells {w : World} {ops : Array Oper} {rest : List Oper} {o : Oper} {a : Act} {Q : Exit → Act → World → Prop} (hgd : o.guard = none) (ty : TypeId) (x : Operand) (ho : o.op = .load ty x)
    (g : Nat) (cs : Array Value) (t : TypeId) (d : TypeDesc) (hx : a.eval x = .pointer (some ⟨g, 0, none⟩)) (hg : Cells g t cs w)
    (hu : P.underlying ty = some d) (hd : (match d with | .struct _ | .array _ _ => true | _ => false) = true) (hi : (P.info? ty).map (·.size) = some cs.size)
    (h : wpList P ops Q rest (a.put o.dst (.agg cs)) w) : wpList P ops Q (o :: rest) a w :=
  wpList_load_row hgd ty x ho g hx t _ _ d hg hu hd hi h
theorem wpList_store_cells {w : World} {ops : Array Oper} {rest : List Oper} {o : Oper} {a : Act} {Q : Exit → Act → World → Prop} (hgd : o.guard = none) (ty : TypeId) (x y : Operand) (ho : o.op = .store ty x y)
    (hd : o.dst = none) (g : Nat) (cs cs' : Array Value) (t : TypeId) (hx : a.eval x = .pointer (some ⟨g, 0, none⟩)) (hy : a.eval y = .agg cs')
    (hg : Cells g t cs w) (hi : (P.info? ty).map (·.size) = some cs'.size) (hl : cs.size = cs'.size) (h1 : cs'.all (·.oneCell') = true)
    (h : ∀ w', Hid (Cells g t cs' w') → Hid (But g w w') → wpList P ops Q rest a w') : wpList P ops Q (o :: rest) a w :=
  wpList_store_rowTo hgd ty x y ho hd g cs' hx hy t _ hg hi hl h1 (h _ (setRow_heap _ _ _ _ _ _ hg) ((But.refl g w).setRow _))
def Val (s : Nat → Bool) (V : Nat → Value) (i : Nat) (v : Value) : Prop := s i = true → V i = v
theorem Val.none {V : Nat → Value} {i : Nat} {v : Value} : Val (fun _ => false) V i v := fun h => by cases h
theorem seen_ne {s : Nat → Bool} {i j : Nat} (hne : j ≠ i) (h : (s j || j == i) = true) : s j = true := by
  have : (j == i) = false := by simpa using hne
  rwa [this, Bool.or_false] at h
theorem Val.same {s : Nat → Bool} {V : Nat → Value} {i : Nat} {v : Value} : Val (fun j => s j || j == i) (upd V i v) i v := fun _ => upd_same _ _ _
theorem Val.ne {s : Nat → Bool} {V : Nat → Value} {i j : Nat} {v u : Value} (h : Val s V j v) (hne : j ≠ i) : Val (fun j => s j || j == i) (upd V i u) j v := fun hs => by
  rw [upd_ne V u hne]
  exact h (seen_ne hne hs)
end
end Go.Proofs.Ytenmkfjgjemiiaa
namespace Go.Proofs.Ytenmkfjgjemiiaa
open Go.RowKit
theorem run_loadVar_cell {P : Program} (w : World) (ty : TypeId) (p : Addr) (v : Value) (hc : w.cell? p = some v) (hi : ∀ w, (isAgg ty).run P w = .ok false w) : (loadVar ty p).run P w = .ok v w := by
  simp [loadVar, hi, hc, go_sem]
theorem quiet_load_cell {P : Program} {o : Oper} {a : Act} {C : World → Prop} {K : Act → Prop} (ty : TypeId) (x : Operand) (ho : o.op = .load ty x) (p : Addr) (v : Value)
    (hx : a.eval x = .pointer (some p)) (hC : ∀ w, C w → w.cell? p = some v) (hi : ∀ w, (isAgg ty).run P w = .ok false w) (hk : K (a.put o.dst v)) : o.quiet P a C K := by
  refine ⟨_, fun w hw => ?_, hk⟩
  unfold Oper.quietAt execOp
  simp only [ho, hx, Instr.loadAt, Instr.sureAddr, Sem.run_bind, Sem.run_pure, Result.andThen_ok, run_loadVar_cell w ty p v (hC w hw) hi]
  exact ⟨rfl, rfl⟩
theorem two_new (w : World) (l m : List Nat) (t u : TypeId) : Blk w.heap.size t .u8 l ((w.alloc (.cells (nums .u8 l).toArray t)).alloc (.cells (nums .u8 m).toArray u)) ∧
    Blk (w.heap.size + 1) u .u8 m ((w.alloc (.cells (nums .u8 l).toArray t)).alloc (.cells (nums .u8 m).toArray u)) ∧ Below w.heap.size w ((w.alloc (.cells (nums .u8 l).toArray t)).alloc (.cells (nums .u8 m).toArray u)) := by
  have h1 : Blk w.heap.size t .u8 l (w.alloc (.cells (nums .u8 l).toArray t)) := heap_alloc_new w _
  have h2 : Blk (w.heap.size + 1) u .u8 m ((w.alloc (.cells (nums .u8 l).toArray t)).alloc (.cells (nums .u8 m).toArray u)) := by
    have h := heap_alloc_new (w.alloc (.cells (nums .u8 l).toArray t)) (.cells (nums .u8 m).toArray u)
    rw [World.size_alloc] at h
    exact h
  exact ⟨h1.alloc _, h2, ((Below.refl _ w).alloc (Nat.le_refl _) _).alloc (by simp) _⟩
end Go.Proofs.Ytenmkfjgjemiiaa
namespace Go.Proofs.Ytenmkfjgjemiiaa
open Go.RowKit Go.ChangeShapes Go.WideShapes
theorem wpList_load_id {P : Program} {ops : Array Oper} {rest : List Oper} {o : Oper} {a : Act} {w : World} {Q : Exit → Act → World → Prop} (hgd : o.guard = none) (ty : TypeId) (x : Operand) (ho : o.op = .load ty x)
    (b off : Nat) (l : List Nat) (d : TypeDesc) (hx : a.eval x = .pointer (some ⟨b, off, none⟩)) (hc : w.rangeAt b off (nums .u8 l))
    (hu : P.underlying ty = some d) (hd : d.isRow = true) (hi : (P.info? ty).map (·.size) = some l.length)
    (h : wpList P ops Q rest (a.put o.dst (.agg (nums .u8 l).toArray)) w) : wpList P ops Q (o :: rest) a w :=
  wpList_load_mid hgd ty x ho b off hx _ d hc hu hd (by rw [nums_len]; exact hi) h
theorem rangeAt_belowI {b o B : Nat} {cs : List Value} {w w' : World} (h : w.rangeAt b o cs) (hb : Below B w w') (hB : b < B) : w'.rangeAt b o cs := fun j v hv => (hb.cell (p := ⟨b, o + j, none⟩) hB).trans (h j v hv)
theorem equal_idI (a b : List Nat) (ha : a.length = 32) (hb : b.length = 32) (la : ∀ x ∈ a, x < 256) (lb : ∀ x ∈ b, x < 256) (w : World) :
    (Op.equalIn 10000 26 (.agg (nums .u8 a).toArray) (.agg (nums .u8 b).toArray)).run Try.prog w = .ok (a == b) w :=
  equal_nums _ _ _ Try.underlying26 Try.underlying5 Try.sizeOf5 a b ha hb la lb w
end Go.Proofs.Ytenmkfjgjemiiaa
namespace Go.Proofs.Ytenmkfjgjemiiaa
open Go.RowKit
structure Only (O : Nat → Prop) (w w' : World) : Prop where
  os : w'.os = w.os
  tape : w'.tape = w.tape
  output : w'.output = w.output
  size : w.heap.size ≤ w'.heap.size
  block : ∀ k, k < w.heap.size → ¬ O k → w'.heap[k]? = w.heap[k]?
theorem Only.refl (O : Nat → Prop) (w : World) : Only O w w := ⟨rfl, rfl, rfl, Nat.le_refl _, fun _ _ _ => rfl⟩
theorem Only.below {O : Nat → Prop} {w w1 w2 : World} (h : Only O w w1) (k : Below w1.heap.size w1 w2) : Only O w w2 :=
  ⟨k.os.trans h.os, k.tape.trans h.tape, k.output.trans h.output, Nat.le_trans h.size k.size, fun i hi hO => (k.block i (Nat.lt_of_lt_of_le hi h.size)).trans (h.block i hi hO)⟩
theorem Only.of {O : Nat → Prop} {w w' : World} (h : Below w.heap.size w w') : Only O w w' := (Only.refl O w).below h
theorem Cells.set {g : Nat} {t : TypeId} {cs : Array Value} {w : World} (h : Cells g t cs w) (j : Nat) (u : Value) : Cells g t (cs.setIfInBounds j u) (w.setCell ⟨g, j, none⟩ u) := heap_setCell_at h
theorem Cells.at {g : Nat} {t : TypeId} {cs : Array Value} {w : World} (h : Cells g t cs w) (j : Nat) : w.cell? ⟨g, j, none⟩ = cs[j]? := Lib.cell_of_heap h j
theorem Cells.frozen {g : Nat} {t : TypeId} {cs : Array Value} {w : World} (h : Cells g t cs w) (j : Nat) : w.frozen? ⟨g, j, none⟩ = false := by
  have h' : w.heap[g]? = some (.cells cs t (0, 0)) := h
  simp [World.frozen?, h']
theorem quiet_conv {P : Program} {o : Oper} {a : Act} {C : World → Prop} {K : Act → Prop} (t u : TypeId) (x : Operand) (ho : o.op = .convert t u x) (v r : Value) (hx : a.eval x = v)
    (hC : ∀ w, C w → (convert t u v).run P w = .ok r w) (hk : K (a.put o.dst r)) : o.quiet P a C K := by
  refine ⟨_, fun w hw => ?_, hk⟩
  unfold Oper.quietAt execOp
  simp only [ho, hx, Sem.run_bind, hC w hw, Result.andThen_ok, Sem.run_pure]
  exact ⟨rfl, rfl⟩
end Go.Proofs.Ytenmkfjgjemiiaa
