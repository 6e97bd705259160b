/-
  Plain mathematics of layer 1's encodings: a number's bytes, what bytes begin with. It knows of no program.
-/
import Derived.Lib.BitFns
namespace Go.Proofs.YthgfpojfnhkckaaDoor

/-- The digits of a number to the base 256, most significant first; none of 0. -/
def dig (n : Nat) : List UInt8 := if _h : n = 0 then [] else dig (n / 256) ++ [UInt8.ofNat (n % 256)]
termination_by n
decreasing_by omega

theorem dig_zero : dig 0 = [] := by unfold dig; simp
theorem dig_pos {n : Nat} (h : n ≠ 0) : dig n = dig (n / 256) ++ [UInt8.ofNat (n % 256)] := by rw [dig]; simp [h]

/-- The number that bytes are. -/
def val (l : List UInt8) : Nat := l.foldl (fun a d => a * 256 + d.toNat) 0
theorem val_nil : val [] = 0 := rfl
theorem val_snoc (l : List UInt8) (d : UInt8) : val (l ++ [d]) = val l * 256 + d.toNat := by simp [val]

theorem toNat_ofNat_mod (n : Nat) : (UInt8.ofNat (n % 256)).toNat = n % 256 := by simp

theorem val_dig (n : Nat) : val (dig n) = n := by
  induction n using Nat.strongRecOn with
  | ind n ih =>
    by_cases h : n = 0
    · subst h; rw [dig_zero]; rfl
    · rw [dig_pos h, val_snoc, ih (n / 256) (by omega), toNat_ofNat_mod]; omega

/-- The number's encoding. -/
def numB (n : Nat) : List UInt8 := UInt8.ofNat (dig n).length :: dig n

theorem dig_length_le (k : Nat) : ∀ n, n < 256 ^ k → (dig n).length ≤ k := by
  induction k with
  | zero => intro n h; have : n = 0 := by simpa using h
            subst this; rw [dig_zero]; simp
  | succ k ih =>
    intro n h
    by_cases h0 : n = 0
    · subst h0; rw [dig_zero]; simp
    · rw [dig_pos h0]
      have h1 : n / 256 < 256 ^ k := by
        rw [Nat.div_lt_iff_lt_mul (by decide)]; rw [Nat.pow_succ] at h; exact h
      have := ih _ h1
      simp; omega

theorem dig_length_ge (k : Nat) : ∀ n, (dig n).length ≤ k → n < 256 ^ k := by
  induction k with
  | zero =>
    intro n h
    by_cases h0 : n = 0
    · subst h0; decide
    · rw [dig_pos h0] at h; simp at h
  | succ k ih =>
    intro n h
    by_cases h0 : n = 0
    · subst h0; exact Nat.pow_pos (by decide)
    · rw [dig_pos h0] at h
      have h1 := ih (n / 256) (by simp at h; omega)
      rw [Nat.pow_succ]
      rwa [Nat.div_lt_iff_lt_mul (by decide)] at h1

theorem dig_length_8 {n : Nat} (h : n < 9223372036854775808) : (dig n).length ≤ 8 :=
  dig_length_le 8 n (Nat.lt_of_lt_of_le h (by decide))

theorem numB_length (n : Nat) : (numB n).length = 1 + (dig n).length := by simp [numB]; omega
theorem numB_length_9 {n : Nat} (h : n < 9223372036854775808) : (numB n).length ≤ 9 := by
  have := dig_length_8 h; rw [numB_length]; omega
theorem numB_pos (n : Nat) : 1 ≤ (numB n).length := by rw [numB_length]; omega

/-- Greater numbers have at least as many digits. -/
theorem dig_mono {a b : Nat} (h : a ≤ b) : (dig a).length ≤ (dig b).length :=
  dig_length_le _ a (Nat.lt_of_le_of_lt h (dig_length_ge _ b (Nat.le_refl _)))

theorem numB_inj {a b : Nat} (h : numB a = numB b) : a = b := by
  have h2 : dig a = dig b := by simp only [numB, List.cons.injEq] at h; exact h.2
  rw [← val_dig a, ← val_dig b, h2]

/-- Digits that don't begin with 0 are their number's. -/
theorem dig_val : ∀ (l : List UInt8), (∀ h : l ≠ [], l.head h ≠ 0) → dig (val l) = l := by
  intro l
  induction hl : l.length using Nat.strongRecOn generalizing l with
  | ind n ih =>
    intro hh
    rcases List.eq_nil_or_concat l with rfl | ⟨t, d, rfl⟩
    · rw [val_nil, dig_zero]
    · rw [List.concat_eq_append] at hh hl ⊢
      have hd := d.toNat_lt
      by_cases ht : t = []
      · subst ht
        simp only [List.nil_append] at hh ⊢
        have h0 : d ≠ 0 := by simpa using hh (by simp)
        have h1 : d.toNat ≠ 0 := fun e => h0 (by rw [← UInt8.toNat_inj]; simpa using e)
        have h2 : val [d] = d.toNat := by simp [val]
        rw [h2, dig_pos h1, show d.toNat / 256 = 0 by omega, dig_zero, show d.toNat % 256 = d.toNat by omega]; simp
      · have ih1 := ih t.length (by rw [← hl]; simp) t rfl (fun h => by
          have := hh (by simp); rwa [List.head_append_of_ne_nil h] at this)
        have hv : val t ≠ 0 := fun e => by rw [e, dig_zero] at ih1; exact ht ih1.symm
        rw [val_snoc, dig_pos (by omega), show (val t * 256 + d.toNat) / 256 = val t by omega, ih1, show (val t * 256 + d.toNat) % 256 = d.toNat by omega]; simp

theorem dig_head (n : Nat) : ∀ h : dig n ≠ [], (dig n).head h ≠ 0 := by
  induction n using Nat.strongRecOn with
  | ind n ih =>
    intro h
    by_cases h0 : n = 0
    · subst h0; exact absurd dig_zero h
    · have e := dig_pos h0
      by_cases h1 : n / 256 = 0
      · have e2 : dig n = [UInt8.ofNat (n % 256)] := by rw [e, h1, dig_zero]; rfl
        simp only [e2, List.head_cons]
        intro e3
        have : (UInt8.ofNat (n % 256)).toNat = 0 := by rw [e3]; rfl
        rw [toNat_ofNat_mod] at this; omega
      · have hn : dig (n / 256) ≠ [] := fun e3 => by rw [dig_pos h1] at e3; simp at e3
        have := ih (n / 256) (by omega) hn
        simp only [e, List.head_append_of_ne_nil hn]; exact this

/-- The number with which bytes begin, and what is left. -/
def takeNum (s : List UInt8) : Option (Nat × List UInt8) :=
  match s with
  | [] => none
  | k :: t => if k.toNat ≤ t.length ∧ val (t.take k.toNat) < 9223372036854775808 ∧ numB (val (t.take k.toNat)) = k :: t.take k.toNat then some (val (t.take k.toNat), t.drop k.toNat) else none

theorem takeNum_numB {n : Nat} (h : n < 9223372036854775808) (r : List UInt8) : takeNum (numB n ++ r) = some (n, r) := by
  have h8 := dig_length_8 h
  have e : (UInt8.ofNat (dig n).length).toNat = (dig n).length := by simp; omega
  simp only [numB, List.cons_append, takeNum, e]
  rw [List.take_left, val_dig, List.drop_left]
  rw [if_pos ⟨by simp, h, rfl⟩]

theorem takeNum_some {s : List UInt8} {n : Nat} {r : List UInt8} (h : takeNum s = some (n, r)) : s = numB n ++ r ∧ n < 9223372036854775808 := by
  cases s with
  | nil => cases h
  | cons k t =>
    simp only [takeNum] at h
    split at h
    · rename_i hc
      simp only [Option.some.injEq, Prod.mk.injEq] at h
      obtain ⟨rfl, rfl⟩ := h
      refine ⟨?_, hc.2.1⟩
      rw [hc.2.2, List.cons_append, List.take_append_drop]
    · cases h

theorem takeNum_lt {s : List UInt8} {n : Nat} {r : List UInt8} (h : takeNum s = some (n, r)) : n < 9223372036854775808 := (takeNum_some h).2
theorem takeNum_len {s : List UInt8} {n : Nat} {r : List UInt8} (h : takeNum s = some (n, r)) : r.length < s.length := by
  rw [(takeNum_some h).1]; have := numB_pos n; simp; omega

/-- Likewise a text. -/
def takeText (s : List UInt8) : Option (List UInt8 × List UInt8) :=
  match takeNum s with
  | none => none
  | some (n, r) => if n ≤ r.length then some (r.take n, r.drop n) else none

def textB (t : List UInt8) : List UInt8 := numB t.length ++ t

theorem takeText_textB {t : List UInt8} (h : t.length < 9223372036854775808) (r : List UInt8) : takeText (textB t ++ r) = some (t, r) := by
  simp only [takeText, textB, List.append_assoc, takeNum_numB h]
  rw [if_pos (by simp), List.take_left, List.drop_left]

theorem takeText_some {s t r : List UInt8} (h : takeText s = some (t, r)) : s = textB t ++ r := by
  unfold takeText at h
  split at h
  · cases h
  · rename_i n q hq
    split at h
    · rename_i hn
      simp only [Option.some.injEq, Prod.mk.injEq] at h
      obtain ⟨rfl, rfl⟩ := h
      have := (takeNum_some hq).1
      rw [this, textB, List.length_take, show min n q.length = n by omega, List.append_assoc, List.take_append_drop]
    · cases h

/-- So many texts. -/
def takeTexts : Nat → List UInt8 → Option (List (List UInt8) × List UInt8)
  | 0, s => some ([], s)
  | k + 1, s =>
    match takeText s with
    | none => none
    | some (t, r) => match takeTexts k r with
      | none => none
      | some (l, q) => some (t :: l, q)

def textsB (l : List (List UInt8)) : List UInt8 := (l.map textB).flatten

theorem textsB_cons (t : List UInt8) (l : List (List UInt8)) : textsB (t :: l) = textB t ++ textsB l := by simp [textsB]
theorem textsB_snoc (t : List UInt8) (l : List (List UInt8)) : textsB (l ++ [t]) = textsB l ++ textB t := by simp [textsB]

theorem takeTexts_textsB : ∀ (l : List (List UInt8)) (r : List UInt8), (∀ t ∈ l, t.length < 9223372036854775808) → takeTexts l.length (textsB l ++ r) = some (l, r) := by
  intro l
  induction l with
  | nil => intro r _; simp [takeTexts, textsB]
  | cons t l ih =>
    intro r h
    simp only [List.length_cons, takeTexts, textsB_cons, List.append_assoc]
    rw [takeText_textB (h t (by simp))]
    simp only [ih r (fun t ht => h t (by simp [ht]))]

theorem takeTexts_some : ∀ (k : Nat) (s : List UInt8) (l : List (List UInt8)) (r : List UInt8), takeTexts k s = some (l, r) → s = textsB l ++ r ∧ l.length = k := by
  intro k
  induction k with
  | zero => intro s l r h; simp only [takeTexts, Option.some.injEq, Prod.mk.injEq] at h; obtain ⟨rfl, rfl⟩ := h; simp [textsB]
  | succ k ih =>
    intro s l r h
    simp only [takeTexts] at h
    split at h
    · cases h
    · rename_i t q hq
      split at h
      · cases h
      · rename_i l' q' hq'
        simp only [Option.some.injEq, Prod.mk.injEq] at h
        obtain ⟨rfl, rfl⟩ := h
        obtain ⟨e1, e2⟩ := ih _ _ _ hq'
        rw [takeText_some hq, e1, textsB_cons, List.append_assoc]
        exact ⟨rfl, by simp [e2]⟩

/-- One text more. -/
theorem takeTexts_succ : ∀ (k : Nat) (s : List UInt8), takeTexts (k + 1) s = match takeTexts k s with
    | none => none
    | some (l, r) => match takeText r with
      | none => none
      | some (t, q) => some (l ++ [t], q) := by
  intro k
  induction k with
  | zero => intro s; simp only [takeTexts]; cases takeText s <;> rfl
  | succ k ih =>
    intro s
    rw [takeTexts]
    cases h1 : takeText s with
    | none => simp [takeTexts, h1]
    | some p =>
      obtain ⟨t, r⟩ := p
      simp only [ih r]
      simp only [takeTexts, h1]
      cases h2 : takeTexts k r with
      | none => rfl
      | some p2 =>
        obtain ⟨l, q⟩ := p2
        simp only
        cases h3 : takeText q with
        | none => rfl
        | some p3 => obtain ⟨t3, q3⟩ := p3; rfl

theorem takeTexts_none_mono {k : Nat} {s : List UInt8} (h : takeTexts k s = none) : ∀ m, k ≤ m → takeTexts m s = none := by
  intro m hm
  induction m with
  | zero => have : k = 0 := by omega
            subst this; exact h
  | succ m ih =>
    by_cases e : k = m + 1
    · subst e; exact h
    · rw [takeTexts_succ, ih (by omega)]

/-- Likewise a list. -/
def takeList (s : List UInt8) : Option (List (List UInt8) × List UInt8) :=
  match takeNum s with
  | none => none
  | some (n, r) => if n ≤ 4096 then takeTexts n r else none

def listB (l : List (List UInt8)) : List UInt8 := numB l.length ++ textsB l

theorem takeList_listB {l : List (List UInt8)} (hl : l.length ≤ 4096) (h : ∀ t ∈ l, t.length < 9223372036854775808) (r : List UInt8) : takeList (listB l ++ r) = some (l, r) := by
  simp only [takeList, listB, List.append_assoc]
  rw [takeNum_numB (by omega)]
  simp only [hl, if_true, takeTexts_textsB l r h]

theorem takeList_some {s : List UInt8} {l : List (List UInt8)} {r : List UInt8} (h : takeList s = some (l, r)) : s = listB l ++ r ∧ l.length ≤ 4096 := by
  unfold takeList at h
  split at h
  · cases h
  · rename_i n q hq
    split at h
    · rename_i hn
      obtain ⟨e1, e2⟩ := takeTexts_some _ _ _ _ h
      rw [(takeNum_some hq).1, e1, listB, e2, List.append_assoc]
      exact ⟨rfl, by omega⟩
    · cases h

theorem bitLenAux_spec : ∀ (f n : Nat), n < 2 ^ f → (n = 0 → Lib.bitLenAux f n = 0) ∧ (n ≠ 0 → 2 ^ (Lib.bitLenAux f n - 1) ≤ n ∧ n < 2 ^ Lib.bitLenAux f n ∧ 1 ≤ Lib.bitLenAux f n) := by
  intro f
  induction f with
  | zero => intro n h; simp at h; subst h; exact ⟨fun _ => rfl, fun h => absurd rfl h⟩
  | succ f ih =>
    intro n h
    refine ⟨fun e => by subst e; simp [Lib.bitLenAux], fun e => ?_⟩
    have e2 : Lib.bitLenAux (f + 1) n = 1 + Lib.bitLenAux f (n / 2) := by simp [Lib.bitLenAux, e]
    rw [e2]
    have h2 : n / 2 < 2 ^ f := by rw [Nat.pow_succ] at h; omega
    obtain ⟨i0, i1⟩ := ih (n / 2) h2
    by_cases e3 : n / 2 = 0
    · rw [i0 e3]; have : n = 1 := by omega
      subst this; decide
    · obtain ⟨a, b, c⟩ := i1 e3
      generalize Lib.bitLenAux f (n / 2) = m at *
      obtain ⟨q, rfl⟩ : ∃ q, m = q + 1 := ⟨m - 1, by omega⟩
      simp only [Nat.add_sub_cancel] at a
      rw [show 1 + (q + 1) - 1 = q + 1 by omega, show 1 + (q + 1) = q + 1 + 1 by omega, Nat.pow_succ 2 (q + 1), Nat.pow_succ 2 q] at *
      omega

theorem bitLen_le {n : Nat} (h : n < 9223372036854775808) : Lib.bitLen n ≤ 63 := by
  obtain ⟨h0, h1⟩ := bitLenAux_spec 64 n (Nat.lt_of_lt_of_le h (by decide))
  unfold Lib.bitLen
  by_cases e : n = 0
  · rw [h0 e]; omega
  · obtain ⟨a, _, _⟩ := h1 e
    apply Decidable.byContradiction
    intro hc
    have : 2 ^ 63 ≤ 2 ^ (Lib.bitLenAux 64 n - 1) := Nat.pow_le_pow_right (by decide) (by omega)
    have e63 : (2 : Nat) ^ 63 = 9223372036854775808 := by decide
    omega

/-- How many digits: the bits, by eights. -/
theorem bitLen_dig {n : Nat} (h : n < 9223372036854775808) : (Lib.bitLen n + 7) / 8 = (dig n).length := by
  obtain ⟨h0, h1⟩ := bitLenAux_spec 64 n (Nat.lt_of_lt_of_le h (by decide))
  unfold Lib.bitLen
  by_cases e : n = 0
  · rw [h0 e, e, dig_zero]; rfl
  · obtain ⟨a, b, c⟩ := h1 e
    generalize Lib.bitLenAux 64 n = m at *
    have p8 : ∀ k, 256 ^ k = 2 ^ (8 * k) := fun k => by rw [show (256 : Nat) = 2 ^ 8 by decide, ← Nat.pow_mul]
    apply Nat.le_antisymm
    · apply Decidable.byContradiction
      intro hc
      have g := dig_length_ge _ n (Nat.le_refl _)
      rw [p8] at g
      have : 2 ^ (8 * (dig n).length) ≤ 2 ^ (m - 1) := Nat.pow_le_pow_right (by decide) (by omega)
      omega
    · apply dig_length_le
      rw [p8]
      exact Nat.lt_of_lt_of_le b (Nat.pow_le_pow_right (by decide) (by omega))

/-- The digit at a place. -/
theorem dig_get (n : Nat) : ∀ (j : Nat) (h : j < (dig n).length), ((dig n)[j]).toNat = n / 256 ^ ((dig n).length - 1 - j) % 256 := by
  induction n using Nat.strongRecOn with
  | ind n ih =>
    intro j h
    by_cases h0 : n = 0
    · subst h0; rw [dig_zero] at h; simp at h
    · have e := dig_pos h0
      have hl : (dig n).length = (dig (n / 256)).length + 1 := by rw [e]; simp
      simp only [hl, Nat.add_sub_cancel]
      by_cases hj : j < (dig (n / 256)).length
      · have := ih (n / 256) (by omega) j hj
        simp only [e, List.getElem_append_left hj]
        rw [this, Nat.div_div_eq_div_mul, ← Nat.pow_succ', show ((dig (n / 256)).length - 1 - j).succ = (dig (n / 256)).length - j by omega]
      · have hj2 : j = (dig (n / 256)).length := by omega
        subst hj2
        simp [e]

theorem textsB_append (a b : List (List UInt8)) : textsB (a ++ b) = textsB a ++ textsB b := by simp [textsB]

theorem textsB_parts (l : List (List UInt8)) (q : Nat) (h : q < l.length) : (textsB l).length = (textsB (l.take q)).length + (textB l[q]).length + (textsB (l.drop (q + 1))).length := by
  have e : l = l.take q ++ (l[q] :: l.drop (q + 1)) := by rw [← List.drop_eq_getElem_cons h, List.take_append_drop]
  have := congrArg (fun x => (textsB x).length) e
  simp only [textsB_append, textsB_cons, List.length_append] at this
  omega

theorem textB_length (t : List UInt8) : (textB t).length = (numB t.length).length + t.length := by simp [textB]
theorem listB_length (l : List (List UInt8)) : (listB l).length = (numB l.length).length + (textsB l).length := by simp [listB]

theorem textsB_take_succ (l : List (List UInt8)) (q : Nat) (h : q < l.length) : textsB (l.take (q + 1)) = textsB (l.take q) ++ numB l[q].length ++ l[q] := by
  rw [List.take_succ_eq_append_getElem h, textsB_snoc, textB, List.append_assoc]

theorem takeNum_big {k : UInt8} (t : List UInt8) (h : 8 < k.toNat) : takeNum (k :: t) = none := by
  simp only [takeNum]
  rw [if_neg]
  rintro ⟨h1, h2, h3⟩
  have h4 := dig_length_8 h2
  simp only [numB, List.cons.injEq] at h3
  have h5 := congrArg List.length h3.2
  simp at h5
  omega

theorem takeNum_short {k : UInt8} {t : List UInt8} (h : t.length < k.toNat) : takeNum (k :: t) = none := by
  simp only [takeNum]
  rw [if_neg]
  rintro ⟨h1, _, _⟩
  omega

theorem val_append_ge (a b : List UInt8) (h : b ≠ []) : val a * 256 ≤ val (a ++ b) := by
  rcases List.eq_nil_or_concat b with rfl | ⟨t, d, rfl⟩
  · exact absurd rfl h
  · clear h
    rw [List.concat_eq_append]
    have key : ∀ (t : List UInt8), val a ≤ val (a ++ t) := by
      intro t
      induction hl : t.length using Nat.strongRecOn generalizing t with
      | ind n ih =>
        rcases List.eq_nil_or_concat t with rfl | ⟨t', d', rfl⟩
        · simp
        · rw [List.concat_eq_append, ← List.append_assoc, val_snoc]
          have := ih t'.length (by rw [← hl]; simp) t' rfl
          omega
    rw [← List.append_assoc, val_snoc]
    have := key t
    omega

theorem takeNum_over {k : UInt8} {t : List UInt8} {q : Nat} (hk : k.toNat ≤ t.length) (hq : q < k.toNat) (h : 36028797018963968 ≤ val (t.take q)) : takeNum (k :: t) = none := by
  simp only [takeNum]
  rw [if_neg]
  rintro ⟨_, h2, _⟩
  have e : t.take k.toNat = t.take q ++ (t.take k.toNat).drop q := by
    have := List.take_append_drop q (t.take k.toNat)
    rw [List.take_take, show min q k.toNat = q by omega] at this
    exact this.symm
  have h3 := val_append_ge (t.take q) ((t.take k.toNat).drop q) (by
    intro e2
    have := congrArg List.length e2
    simp at this
    omega)
  rw [← e] at h3
  omega

theorem takeNum_zero {k : UInt8} {t : List UInt8} (hk : k.toNat ≤ t.length) (h0 : 0 < k.toNat) (hz : t[0]'(by omega) = 0) : takeNum (k :: t) = none := by
  simp only [takeNum]
  rw [if_neg]
  rintro ⟨_, h2, h3⟩
  simp only [numB, List.cons.injEq] at h3
  have hne : dig (val (t.take k.toNat)) ≠ [] := by
    rw [h3.2]; intro e
    have h7 : (t.take k.toNat).length = 0 := by rw [e]; rfl
    rw [List.length_take] at h7
    omega
  have := dig_head _ hne
  apply this
  have e2 : ∀ (l : List UInt8) (hl : l ≠ []) (m : List UInt8) (hm : m ≠ []), l = m → l.head hl = m.head hm := by intro l hl m hm e; subst e; rfl
  rw [e2 _ hne (t.take k.toNat) (by rw [← h3.2]; exact hne) h3.2]
  rw [List.head_take, List.head_eq_getElem]
  exact hz

theorem takeNum_good {k : UInt8} {t : List UInt8} (hk : k.toNat ≤ t.length) (hv : val (t.take k.toNat) < 9223372036854775808) (hz : ∀ h : 0 < k.toNat, t[0]'(by omega) ≠ 0) : takeNum (k :: t) = some (val (t.take k.toNat), t.drop k.toNat) := by
  simp only [takeNum]
  rw [if_pos]
  refine ⟨hk, hv, ?_⟩
  have e : dig (val (t.take k.toNat)) = t.take k.toNat := by
    apply dig_val
    intro hne
    have h0 : 0 < k.toNat := by
      rcases Nat.eq_zero_or_pos k.toNat with h | h
      · rw [h] at hne; simp at hne
      · exact h
    rw [List.head_take, List.head_eq_getElem]
    exact hz h0
  rw [numB, e]
  congr 1
  rw [List.length_take, show min k.toNat t.length = k.toNat by omega]
  simp

theorem textsB_length_ge (l : List (List UInt8)) : l.length ≤ (textsB l).length := by
  induction l with
  | nil => simp
  | cons t l ih =>
    rw [textsB_cons, List.length_append, List.length_cons, textB_length]
    have := numB_pos t.length
    omega
theorem listB_length_ge (l : List (List UInt8)) : l.length ≤ (listB l).length := by
  rw [listB_length]; have := textsB_length_ge l; omega

theorem takeText_len {s t r : List UInt8} (h : takeText s = some (t, r)) : r.length ≤ s.length := by
  have := takeText_some h
  rw [this]; simp

theorem takeTexts_len {k : Nat} {s : List UInt8} {l : List (List UInt8)} {r : List UInt8} (h : takeTexts k s = some (l, r)) : r.length ≤ s.length := by
  have := (takeTexts_some _ _ _ _ h).1
  rw [this]; simp

def splitB (s : List UInt8) : Option (List (List UInt8)) :=
  if 262144 < s.length then none else match takeList s with | some (l, []) => some l | _ => none
theorem splitB_some {s : List UInt8} {l : List (List UInt8)} (h : splitB s = some l) : listB l = s := by
  unfold splitB at h
  split at h
  · cases h
  · cases ht : takeList s with
    | none => rw [ht] at h; cases h
    | some p =>
      obtain ⟨l', r⟩ := p
      rw [ht] at h
      cases r with
      | nil =>
        have e : l' = l := by simpa using h
        subst e
        have := (takeList_some ht).1
        rw [List.append_nil] at this
        exact this.symm
      | cons => cases h
end Go.Proofs.YthgfpojfnhkckaaDoor
