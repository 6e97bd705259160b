/-
  Operations as plain mathematics: which can be, their bytes, what bytes are.
-/
import Derived.Test.YthgfpojfnhkckaaDoorGen
import Derived.Test.YthgfpojfnhkckaaDoorMath
namespace Go.Proofs.YthgfpojfnhkckaaDoor
open Go.RowKit

/-- A draft. -/
structure DraftN where
  kind : Int
  key : List UInt8
  val : List UInt8
  ref : List Nat
deriving DecidableEq
/-- An operation. -/
structure OpN where
  d : DraftN
  author : Int
  depth : Int
  preds : List (List Nat)
deriving DecidableEq
/-- A row of 32 bytes. -/
def IdOk (l : List Nat) : Prop := l.length = 32 ∧ ∀ x ∈ l, x < 256
structure OpN.Ok (o : OpN) : Prop where
  ref : IdOk o.d.ref
  preds : ∀ p ∈ o.preds, IdOk p
def zeroI : List Nat := List.replicate 32 0
theorem zeroI_ok : IdOk zeroI := ⟨List.length_replicate, fun x hx => by rw [(List.mem_replicate.1 hx).2]; decide⟩

/-! ### Which can be -/
/-- Byte by byte. -/
def cmpN : List Nat → List Nat → Int
  | a :: x, b :: y => if a < b then -1 else if b < a then 1 else cmpN x y
  | _, _ => 0
def GoodD (d : DraftN) : Prop := 1 ≤ d.kind ∧ d.kind ≤ 5 ∧ 1 ≤ d.key.length ∧ d.key.length ≤ 16 ∧ d.val.length ≤ 64 ∧ (d.kind ≤ 3 → d.ref = zeroI) ∧ (d.kind = 5 → d.ref ≠ zeroI ∧ d.val = [])
instance (d : DraftN) : Decidable (GoodD d) := by unfold GoodD; infer_instance
def AscN (L : List (List Nat)) : Prop := ∀ i, i < L.length → 0 < i → cmpN (L.getD (i - 1) []) (L.getD i []) = -1
instance (L : List (List Nat)) : Decidable (AscN L) := by unfold AscN; infer_instance
def GoodO (o : OpN) : Prop := AscN o.preds ∧ (o.preds = [] → o.depth = 1) ∧ (o.preds ≠ [] → 2 ≤ o.depth) ∧ o.preds.length ≤ 32 ∧ GoodD o.d ∧ 0 ≤ o.author ∧ o.author ≤ 4
instance (o : OpN) : Decidable (GoodO o) := by unfold GoodO; infer_instance

/-! ### Their bytes -/
def draftB (d : DraftN) : List UInt8 := listB [numB d.kind.toNat, d.key, d.val, txt d.ref]
def predsB (L : List (List Nat)) : List UInt8 := (L.map txt).flatten
def opB (o : OpN) : List UInt8 := listB [numB o.author.toNat, numB o.depth.toNat, predsB o.preds, draftB o.d]
def batchB (L : List OpN) : List UInt8 := listB (L.map opB)
theorem listB_inj {a b : List (List UInt8)} (ha : a.length ≤ 4096) (hb : b.length ≤ 4096) (la : ∀ t ∈ a, t.length < 9223372036854775808) (lb : ∀ t ∈ b, t.length < 9223372036854775808) (h : listB a = listB b) : a = b := by
  have h1 := takeList_listB ha la []
  have h2 := takeList_listB hb lb []
  rw [List.append_nil] at h1 h2
  rw [h, h2] at h1
  simp only [Option.some.injEq, Prod.mk.injEq, and_true] at h1
  exact h1.symm
theorem splitB_listB {l : List (List UInt8)} (hl : l.length ≤ 4096) (h : (listB l).length ≤ 262144) : splitB (listB l) = some l := by
  have ht : ∀ t ∈ l, t.length < 9223372036854775808 := fun t ht => by
    have h1 := listB_length l
    have h2 : t.length ≤ (textsB l).length := by
      obtain ⟨q, hq, rfl⟩ := List.getElem_of_mem ht
      have := textsB_parts l q hq
      have := textB_length l[q]
      omega
    omega
  have h1 := takeList_listB hl ht []
  rw [List.append_nil] at h1
  unfold splitB
  rw [if_neg (by omega), h1]
theorem predsB_len {L : List (List Nat)} (h : ∀ p ∈ L, IdOk p) : (predsB L).length = 32 * L.length := by
  induction L with
  | nil => rfl
  | cons p L ih =>
    have h1 := ih (fun q hq => h q (by simp [hq]))
    have h2 := (h p (by simp)).1
    rw [predsB, List.map_cons, List.flatten_cons, List.length_append, txt_len, h2, List.length_cons]
    rw [predsB] at h1
    omega
/-- The rows of 32 bytes that a text is. -/
def idsOf : Nat → List UInt8 → List (List Nat)
  | 0, _ => []
  | k + 1, s => byteNs (s.take 32) :: idsOf k (s.drop 32)
theorem idsOf_len : ∀ (k : Nat) (s : List UInt8), (idsOf k s).length = k
  | 0, _ => rfl
  | k + 1, s => by rw [idsOf, List.length_cons, idsOf_len k]
theorem idsOf_predsB : ∀ {L : List (List Nat)}, (∀ p ∈ L, IdOk p) → idsOf L.length (predsB L) = L
  | [], _ => rfl
  | p :: L, h => by
    have hp := h p (by simp)
    rw [List.length_cons, predsB, List.map_cons, List.flatten_cons, idsOf, List.take_append_of_le_length (by rw [txt_len, hp.1]; exact Nat.le_refl _), List.take_of_length_le (by rw [txt_len, hp.1]; exact Nat.le_refl _), byteNs_txt hp.2,
      List.drop_append_of_le_length (by rw [txt_len, hp.1]; exact Nat.le_refl _), List.drop_of_length_le (by rw [txt_len, hp.1]; exact Nat.le_refl _), List.nil_append]
    exact congrArg _ (idsOf_predsB (L := L) (fun q hq => h q (by simp [hq])))
theorem predsB_idsOf : ∀ (k : Nat) (s : List UInt8), s.length = 32 * k → predsB (idsOf k s) = s
  | 0, s, h => by
    have : s = [] := List.length_eq_zero_iff.1 (by omega)
    subst this
    rfl
  | k + 1, s, h => by
    rw [idsOf, predsB, List.map_cons, List.flatten_cons, txt_byteNs]
    have := predsB_idsOf k (s.drop 32) (by rw [List.length_drop]; omega)
    rw [predsB] at this
    rw [this, List.take_append_drop]
theorem idsOf_ok : ∀ (k : Nat) (s : List UInt8), s.length = 32 * k → ∀ p ∈ idsOf k s, IdOk p
  | 0, _, _, p, hp => by cases hp
  | k + 1, s, h, p, hp => by
    rw [idsOf] at hp
    rcases List.mem_cons.1 hp with rfl | hp
    · exact ⟨by rw [byteNs_len, List.length_take]; omega, byteNs_lt _⟩
    · exact idsOf_ok k (s.drop 32) (by rw [List.length_drop]; omega) p hp
theorem predsB_inj {L M : List (List Nat)} (hL : ∀ p ∈ L, IdOk p) (hM : ∀ p ∈ M, IdOk p) (h : predsB L = predsB M) : L = M := by
  have h1 := predsB_len hL
  have h2 := predsB_len hM
  rw [h] at h1
  have : L.length = M.length := by omega
  rw [← idsOf_predsB hL, ← idsOf_predsB hM, h, this]

/-! ### What bytes are -/
/-- A number that is all of a text. -/
def allNum (s : List UInt8) : Option Nat := match takeNum s with | some (n, []) => some n | _ => none
def readD (s : List UInt8) : Option DraftN := match splitB s with
  | some [k, key, val, r] => if r.length = 32 then (match allNum k with
    | some n => if GoodD ⟨n, key, val, byteNs r⟩ then some ⟨n, key, val, byteNs r⟩ else none
    | none => none) else none
  | _ => none
def readO (s : List UInt8) : Option OpN := match splitB s with
  | some [a, b, p, t] => if p.length % 32 = 0 then (match allNum a, allNum b, readD t with
    | some x, some y, some d => if GoodO ⟨d, x, y, idsOf (p.length / 32) p⟩ then some ⟨d, x, y, idsOf (p.length / 32) p⟩ else none
    | _, _, _ => none) else none
  | _ => none
def readAll : List (List UInt8) → Option (List OpN)
  | [] => some []
  | t :: r => match readO t, readAll r with
    | some o, some l => some (o :: l)
    | _, _ => none
def readL (s : List UInt8) : Option (List OpN) := match splitB s with
  | some l => if l.length ≤ 8 then readAll l else none
  | none => none
theorem allNum_numB {n : Nat} (h : n < 9223372036854775808) : allNum (numB n) = some n := by
  have := takeNum_numB h []
  rw [List.append_nil] at this
  rw [allNum, this]
theorem allNum_some {s : List UInt8} {n : Nat} (h : allNum s = some n) : numB n = s ∧ n < 9223372036854775808 := by
  unfold allNum at h
  split at h
  · rename_i m hm
    simp only [Option.some.injEq] at h
    subst h
    have := takeNum_some hm
    rw [List.append_nil] at this
    exact ⟨this.1.symm, this.2⟩
  · cases h
theorem readD_some {s : List UInt8} {d : DraftN} (h : readD s = some d) : draftB d = s ∧ GoodD d ∧ IdOk d.ref ∧ d.kind < 9223372036854775808 := by
  unfold readD at h
  split at h
  · rename_i k key val r hs
    split at h
    · rename_i hr
      split at h
      · rename_i n hn
        split at h
        · rename_i hg
          simp only [Option.some.injEq] at h
          subst h
          obtain ⟨h1, h2⟩ := allNum_some hn
          refine ⟨?_, hg, ⟨by rw [byteNs_len, hr], byteNs_lt _⟩, by simp only; omega⟩
          rw [draftB]
          simp only [Int.toNat_natCast, txt_byteNs, h1]
          exact splitB_some hs
        · cases h
      · cases h
    · cases h
  · cases h
theorem readO_some {s : List UInt8} {o : OpN} (h : readO s = some o) : opB o = s ∧ GoodO o ∧ o.Ok := by
  unfold readO at h
  split at h
  · rename_i a b p t hs
    split at h
    · rename_i hp
      split at h
      · rename_i x y d hx hy hd
        split at h
        · rename_i hg
          simp only [Option.some.injEq] at h
          subst h
          obtain ⟨h1, _⟩ := allNum_some hx
          obtain ⟨h2, _⟩ := allNum_some hy
          obtain ⟨h3, _, h4, _⟩ := readD_some hd
          have hl : p.length = 32 * (p.length / 32) := by omega
          refine ⟨?_, hg, h4, idsOf_ok _ _ hl⟩
          rw [opB]
          simp only [Int.toNat_natCast, h1, h2, h3, predsB_idsOf _ _ hl]
          exact splitB_some hs
        · cases h
      · cases h
    · cases h
  · cases h
theorem readAll_some : ∀ {l : List (List UInt8)} {L : List OpN}, readAll l = some L → L.map opB = l ∧ ∀ o ∈ L, GoodO o ∧ o.Ok
  | [], L, h => by
    simp only [readAll, Option.some.injEq] at h
    subst h
    exact ⟨rfl, fun o ho => by cases ho⟩
  | t :: r, L, h => by
    unfold readAll at h
    split at h
    · rename_i o l ho hl
      simp only [Option.some.injEq] at h
      subst h
      obtain ⟨h1, h2⟩ := readAll_some hl
      obtain ⟨h3, h4⟩ := readO_some ho
      refine ⟨by rw [List.map_cons, h1, h3], fun q hq => ?_⟩
      rcases List.mem_cons.1 hq with rfl | hq
      · exact h4
      · exact h2 q hq
    · cases h
theorem readL_some {s : List UInt8} {L : List OpN} (h : readL s = some L) : batchB L = s ∧ (∀ o ∈ L, GoodO o ∧ o.Ok) ∧ L.length ≤ 8 := by
  unfold readL at h
  split at h
  · rename_i l hs
    split at h
    · rename_i h8
      obtain ⟨h1, h2⟩ := readAll_some h
      refine ⟨by rw [batchB, h1]; exact splitB_some hs, h2, ?_⟩
      rw [← List.length_map (f := opB), h1]
      exact h8
    · cases h
  · cases h
theorem draftB_len (d : DraftN) : (draftB d).length = 2 + (numB (numB d.kind.toNat).length).length + (numB d.kind.toNat).length + (textB d.key).length + (textB d.val).length + (textB (txt d.ref)).length := by
  rw [draftB, listB_length]
  simp only [List.length_cons, List.length_nil, Nat.zero_add, Nat.reduceAdd, textsB_cons, List.length_append]
  have e : (numB 4).length = 2 := by simp [numB, dig]
  have e2 : (textsB []).length = 0 := rfl
  rw [e, e2, textB_length (numB _)]
  omega
theorem textB_le9 {t : List UInt8} (h : t.length < 9223372036854775808) : (textB t).length ≤ t.length + 9 := by
  have := numB_length_9 h
  rw [textB_length]
  omega
theorem numB_len9 {n : Nat} (h : n < 9223372036854775808) : (numB n).length ≤ 9 := numB_length_9 h
theorem draftB_le {d : DraftN} (hk : d.kind < 9223372036854775808) (h1 : d.key.length ≤ 512) (h2 : d.val.length ≤ 512) (h3 : d.ref.length = 32) : (draftB d).length ≤ 1200 := by
  have e := draftB_len d
  have a1 := numB_len9 (n := d.kind.toNat) (by omega)
  have a2 := numB_len9 (n := (numB d.kind.toNat).length) (by omega)
  have a3 := textB_le9 (t := d.key) (by omega)
  have a4 := textB_le9 (t := d.val) (by omega)
  have a5 := textB_le9 (t := txt d.ref) (by rw [txt_len]; omega)
  rw [txt_len] at a5
  omega
theorem readD_draftB {d : DraftN} (hk : 0 ≤ d.kind ∧ d.kind < 9223372036854775808) (h1 : d.key.length ≤ 512) (h2 : d.val.length ≤ 512) (h3 : IdOk d.ref) : readD (draftB d) = if GoodD d then some d else none := by
  have hl := draftB_le hk.2 h1 h2 h3.1
  have hs : splitB (draftB d) = some [numB d.kind.toNat, d.key, d.val, txt d.ref] := splitB_listB (by simp) (by rw [← draftB]; omega)
  have hd : (⟨((d.kind.toNat : Nat) : Int), d.key, d.val, byteNs (txt d.ref)⟩ : DraftN) = d := by rw [byteNs_txt h3.2, Int.toNat_of_nonneg hk.1]
  unfold readD
  rw [hs]
  simp only
  rw [if_pos (by rw [txt_len]; exact h3.1), allNum_numB (by omega)]
  simp only [hd]
theorem opB_le {o : OpN} (hk : o.d.kind < 9223372036854775808) (ha : o.author < 9223372036854775808) (hd : o.depth < 9223372036854775808) (h1 : o.d.key.length ≤ 512) (h2 : o.d.val.length ≤ 512) (h3 : o.Ok) (h4 : o.preds.length ≤ 70) : (opB o).length ≤ 4000 := by
  have hl := draftB_le hk h1 h2 h3.ref.1
  have hp := predsB_len h3.preds
  rw [opB, listB_length]
  simp only [List.length_cons, List.length_nil, Nat.zero_add, Nat.reduceAdd, textsB_cons, List.length_append]
  have e : (numB 4).length = 2 := by simp [numB, dig]
  have e2 : (textsB []).length = 0 := rfl
  have a1 := numB_len9 (n := o.author.toNat) (by omega)
  have a2 := numB_len9 (n := o.depth.toNat) (by omega)
  have b1 := textB_le9 (t := numB o.author.toNat) (by omega)
  have b2 := textB_le9 (t := numB o.depth.toNat) (by omega)
  have b3 := textB_le9 (t := predsB o.preds) (by omega)
  have b4 := textB_le9 (t := draftB o.d) (by omega)
  omega
theorem readO_opB {o : OpN} (hk : 0 ≤ o.d.kind ∧ o.d.kind < 9223372036854775808) (ha : 0 ≤ o.author ∧ o.author < 9223372036854775808) (hd : 0 ≤ o.depth ∧ o.depth < 9223372036854775808) (h1 : o.d.key.length ≤ 512) (h2 : o.d.val.length ≤ 512) (h3 : o.Ok) (h4 : o.preds.length ≤ 70) :
    readO (opB o) = if GoodO o then some o else none := by
  have hl := opB_le hk.2 ha.2 hd.2 h1 h2 h3 h4
  have hs : splitB (opB o) = some [numB o.author.toNat, numB o.depth.toNat, predsB o.preds, draftB o.d] := splitB_listB (by simp) (by rw [← opB]; omega)
  have hp := predsB_len h3.preds
  unfold readO
  rw [hs]
  simp only
  rw [if_pos (by omega), allNum_numB (by omega), allNum_numB (by omega), readD_draftB hk h1 h2 h3.ref, show (predsB o.preds).length / 32 = o.preds.length by omega, idsOf_predsB h3.preds]
  by_cases hg : GoodD o.d
  · rw [if_pos hg]
    simp only [Int.toNat_of_nonneg ha.1, Int.toNat_of_nonneg hd.1]
  · rw [if_neg hg, if_neg (fun h : GoodO o => hg h.2.2.2.2.1)]
/-- How great an operation is in a law. -/
structure OpN.Small (o : OpN) : Prop where
  kind : o.d.kind < 9223372036854775808
  author : o.author < 9223372036854775808
  depth : o.depth < 9223372036854775808
  key : o.d.key.length ≤ 512
  val : o.d.val.length ≤ 512
  ok : o.Ok
  count : o.preds.length ≤ 70
/-- None of its numbers is below 0. -/
structure OpN.Pos (o : OpN) : Prop where
  kind : 0 ≤ o.d.kind
  author : 0 ≤ o.author
  depth : 0 ≤ o.depth
theorem OpN.Small.len {o : OpN} (h : o.Small) : (opB o).length ≤ 4000 := opB_le h.kind h.author h.depth h.key h.val h.ok h.count
theorem OpN.Small.dlen {o : OpN} (h : o.Small) : (draftB o.d).length ≤ 1200 := draftB_le h.kind h.key h.val h.ok.ref.1
theorem OpN.Small.reads {o : OpN} (h : o.Small) (p : o.Pos) : readO (opB o) = if GoodO o then some o else none := readO_opB ⟨p.kind, h.kind⟩ ⟨p.author, h.author⟩ ⟨p.depth, h.depth⟩ h.key h.val h.ok h.count
theorem OpN.Small.readsD {o : OpN} (h : o.Small) (p : o.Pos) : readD (draftB o.d) = if GoodD o.d then some o.d else none := readD_draftB ⟨p.kind, h.kind⟩ h.key h.val h.ok.ref
theorem draftB_inj {a b : DraftN} (ka : 0 ≤ a.kind ∧ a.kind < 9223372036854775808) (kb : 0 ≤ b.kind ∧ b.kind < 9223372036854775808) (a1 : a.key.length ≤ 512) (a2 : a.val.length ≤ 512) (a3 : IdOk a.ref) (b1 : b.key.length ≤ 512) (b2 : b.val.length ≤ 512) (b3 : IdOk b.ref) (h : draftB a = draftB b) : a = b := by
  have n1 := numB_len9 (n := a.kind.toNat) (by omega)
  have n2 := numB_len9 (n := b.kind.toNat) (by omega)
  have t1 := txt_len a.ref
  have t2 := txt_len b.ref
  have r1 := a3.1
  have r2 := b3.1
  have hl := listB_inj (by simp) (by simp) (fun t ht => by simp only [List.mem_cons, List.not_mem_nil, or_false] at ht; rcases ht with rfl | rfl | rfl | rfl <;> omega) (fun t ht => by simp only [List.mem_cons, List.not_mem_nil, or_false] at ht; rcases ht with rfl | rfl | rfl | rfl <;> omega) h
  simp only [List.cons.injEq, and_true] at hl
  obtain ⟨h1, h2, h3, h4⟩ := hl
  have h5 := numB_inj h1
  have h6 := txt_inj a3.2 b3.2 h4
  cases a
  cases b
  simp only at *
  subst h2 h3 h6
  congr 1
  omega
theorem opB_inj {a b : OpN} (ha : a.Small) (hb : b.Small) (pa : a.Pos) (pb : b.Pos) (h : opB a = opB b) : a = b := by
  have k1 := ha.kind
  have k2 := ha.author
  have k3 := ha.depth
  have m1 := hb.kind
  have m2 := hb.author
  have m3 := hb.depth
  have a1 := numB_len9 (n := a.author.toNat) (by omega)
  have a2 := numB_len9 (n := a.depth.toNat) (by omega)
  have b1 := numB_len9 (n := b.author.toNat) (by omega)
  have b2 := numB_len9 (n := b.depth.toNat) (by omega)
  have a3 := predsB_len ha.ok.preds
  have b3 := predsB_len hb.ok.preds
  have a4 := ha.count
  have b4 := hb.count
  have a5 := ha.dlen
  have b5 := hb.dlen
  have hl := listB_inj (by simp) (by simp) (fun t ht => by simp only [List.mem_cons, List.not_mem_nil, or_false] at ht; rcases ht with rfl | rfl | rfl | rfl <;> omega) (fun t ht => by simp only [List.mem_cons, List.not_mem_nil, or_false] at ht; rcases ht with rfl | rfl | rfl | rfl <;> omega) h
  simp only [List.cons.injEq, and_true] at hl
  obtain ⟨h1, h2, h3, h4⟩ := hl
  have h5 := numB_inj h1
  have h6 := numB_inj h2
  have h7 := predsB_inj ha.ok.preds hb.ok.preds h3
  have h8 := draftB_inj ⟨pa.kind, ha.kind⟩ ⟨pb.kind, hb.kind⟩ ha.key ha.val ha.ok.ref hb.key hb.val hb.ok.ref h4
  have q1 := pa.author
  have q2 := pa.depth
  have q3 := pb.author
  have q4 := pb.depth
  cases a
  cases b
  simp only at *
  subst h7 h8
  congr 1 <;> omega
theorem readAll_map : ∀ {L : List OpN}, (∀ o ∈ L, o.Small ∧ o.Pos) → readAll (L.map opB) = if ∀ o ∈ L, GoodO o then some L else none
  | [], _ => by simp [readAll]
  | o :: L, h => by
    have h1 := (h o (by simp)).1.reads (h o (by simp)).2
    have h2 := readAll_map (L := L) (fun q hq => h q (by simp [hq]))
    rw [List.map_cons, readAll, h1, h2]
    by_cases hg : GoodO o
    · by_cases hr : ∀ q ∈ L, GoodO q
      · rw [if_pos hg, if_pos hr, if_pos (fun q hq => (List.mem_cons.1 hq).elim (fun e => e ▸ hg) (hr q))]
      · rw [if_pos hg, if_neg hr, if_neg (fun ha : ∀ q ∈ o :: L, GoodO q => hr (fun q hq => ha q (by simp [hq])))]
    · rw [if_neg hg, if_neg (fun ha : ∀ q ∈ o :: L, GoodO q => hg (ha o (by simp)))]
theorem textsB_le : ∀ {L : List OpN}, (∀ o ∈ L, o.Small) → (textsB (L.map opB)).length ≤ 4009 * L.length
  | [], _ => by simp [textsB]
  | o :: L, h => by
    have h1 := (h o (by simp)).len
    have h2 := textsB_le (L := L) (fun q hq => h q (by simp [hq]))
    have h3 := textB_le9 (t := opB o) (by omega)
    rw [List.map_cons, textsB_cons, List.length_append, List.length_cons]
    omega
theorem batchB_le {L : List OpN} (h : ∀ o ∈ L, o.Small) (hl : L.length ≤ 10) : (batchB L).length ≤ 45000 := by
  have h1 := textsB_le h
  have h2 := numB_len9 (n := L.length) (by omega)
  rw [batchB, listB_length, List.length_map]
  omega
theorem readL_batchB {L : List OpN} (h : ∀ o ∈ L, o.Small ∧ o.Pos) (hl : L.length ≤ 10) : readL (batchB L) = if L.length ≤ 8 ∧ ∀ o ∈ L, GoodO o then some L else none := by
  have h1 := batchB_le (fun o ho => (h o ho).1) hl
  have hs : splitB (batchB L) = some (L.map opB) := splitB_listB (by rw [List.length_map]; omega) (by rw [← batchB]; omega)
  unfold readL
  rw [hs]
  simp only [List.length_map]
  rw [readAll_map h]
  by_cases h8 : L.length ≤ 8
  · rw [if_pos h8]
    by_cases hg : ∀ o ∈ L, GoodO o
    · rw [if_pos hg, if_pos ⟨h8, hg⟩]
    · rw [if_neg hg, if_neg (fun h => hg h.2)]
  · rw [if_neg h8, if_neg (fun h => h8 h.1)]
end Go.Proofs.YthgfpojfnhkckaaDoor
