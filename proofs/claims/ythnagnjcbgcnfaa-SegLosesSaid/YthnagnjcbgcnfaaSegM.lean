/-
  Records on a disk, as plain mathematics: what a disk opens to; that a batch's acts keep it, wherever the power goes.
-/
import Derived.Test.YthnagnjcbgcnfaaDevM
import Derived.Test.YthnagnjcbgcnfaaMath
namespace Go.Proofs.Ythnagnjcbgcnfaa
open Go.RowKit

/-! ### Numbers of eight bytes -/
def be8 (n : Nat) : List UInt8 := (List.range 8).map fun j => UInt8.ofNat (n / 256 ^ (7 - j) % 256)
theorem be8_len (n : Nat) : (be8 n).length = 8 := by simp [be8]
theorem val_be8 {n : Nat} (h : n < 18446744073709551616) : val (be8 n) = n := by
  have e : be8 n = [UInt8.ofNat (n / 256 ^ 7 % 256), UInt8.ofNat (n / 256 ^ 6 % 256), UInt8.ofNat (n / 256 ^ 5 % 256), UInt8.ofNat (n / 256 ^ 4 % 256), UInt8.ofNat (n / 256 ^ 3 % 256), UInt8.ofNat (n / 256 ^ 2 % 256), UInt8.ofNat (n / 256 ^ 1 % 256), UInt8.ofNat (n / 256 ^ 0 % 256)] := rfl
  rw [e]
  simp only [val, List.foldl_cons, List.foldl_nil, toNat_ofNat_mod]
  omega
def slotB (e n : Nat) : List UInt8 := be8 e ++ be8 n
theorem slotB_len (e n : Nat) : (slotB e n).length = 16 := by rw [slotB, List.length_append, be8_len, be8_len]
def epochOf (x : List UInt8) : Nat := val (x.take 8)
def lenOf (x : List UInt8) : Nat := val ((x.drop 8).take 8)
theorem epochOf_slot {e n : Nat} (h : e < 18446744073709551616) : epochOf (padN (slotB e n)) = e := by
  rw [epochOf, padN, slotB, List.append_assoc, List.take_append_of_le_length (by rw [be8_len]; exact Nat.le_refl _), List.take_of_length_le (by rw [be8_len]; exact Nat.le_refl _), val_be8 h]
theorem lenOf_slot {e n : Nat} (h : n < 18446744073709551616) : lenOf (padN (slotB e n)) = n := by
  rw [lenOf, padN, slotB, List.append_assoc, List.drop_append_of_le_length (by rw [be8_len]; exact Nat.le_refl _), List.drop_of_length_le (by rw [be8_len]; exact Nat.le_refl _), List.nil_append, List.take_append_of_le_length (by rw [be8_len]; exact Nat.le_refl _), List.take_of_length_le (by rw [be8_len]; exact Nat.le_refl _), val_be8 h]
theorem val_zeros (n : Nat) : val (List.replicate n 0) = 0 := by
  induction n with
  | zero => rfl
  | succ n ih => rw [List.replicate_succ', val_snoc, ih]; rfl

/-! ### The bytes behind the slots -/
def dataL (A : List (List UInt8)) : List UInt8 := (A.drop 2).flatten
theorem wide_drop {A : List (List UInt8)} (h : ∀ x ∈ A, x.length = 128) : Wide 128 (A.drop 2) := fun x hx => h x (List.mem_of_mem_drop hx)
theorem dataL_len {A : List (List UInt8)} (h : ∀ x ∈ A, x.length = 128) : (dataL A).length = 128 * (A.length - 2) := by rw [dataL, flat_len (wide_drop h), List.length_drop, Nat.mul_comm]
theorem dataL_get {A : List (List UInt8)} (h : ∀ x ∈ A, x.length = 128) {i j : Nat} (hi : 2 + i < A.length) (hj : j < 128) : (dataL A)[128 * i + j]? = (A.getD (2 + i) [])[j]? := by
  rw [dataL, flat_get (wide_drop h) (by rw [List.length_drop]; omega) hj, List.getD_eq_getElem?_getD, List.getElem?_drop, List.getD_eq_getElem?_getD]
theorem getD_set_self {A : List (List UInt8)} {i : Nat} (hi : i < A.length) (x : List UInt8) : (A.set i x).getD i [] = x := by rw [List.getD_eq_getElem?_getD, List.getElem?_set_self hi]; rfl
theorem getD_set_other {A : List (List UInt8)} {i k : Nat} (h : i ≠ k) (x : List UInt8) : (A.set i x).getD k [] = A.getD k [] := by rw [List.getD_eq_getElem?_getD, List.getElem?_set_ne h, List.getD_eq_getElem?_getD]
theorem dataL_slot {A : List (List UInt8)} {i : Nat} (hi : i < 2) (x : List UInt8) : dataL (A.set i x) = dataL A := by rw [dataL, List.drop_set_of_lt hi, dataL]
/-- They begin with S. -/
def Holds (A : List (List UInt8)) (S : List UInt8) : Prop := ∀ p, p < S.length → (dataL A)[p]? = S[p]?
theorem Holds.take {A : List (List UInt8)} {S : List UInt8} (h : Holds A S) : (dataL A).take S.length = S := by
  refine List.ext_getElem? fun p => ?_
  rw [List.getElem?_take]
  split
  · exact h p ‹_›
  · rw [List.getElem?_eq_none (by omega)]
theorem Holds.fits {A : List (List UInt8)} {S : List UInt8} (h : Holds A S) : S.length ≤ (dataL A).length := by
  rcases Nat.eq_zero_or_pos S.length with h0 | h0
  · omega
  · have h1 := h (S.length - 1) (by omega)
    rw [List.getElem?_eq_getElem (show S.length - 1 < S.length by omega)] at h1
    have := (List.getElem?_eq_some_iff.1 h1).1
    omega
theorem Holds.mono {A : List (List UInt8)} {S : List UInt8} (h : Holds A S) (k : Nat) : Holds A (S.take k) := fun p hp => by
  rw [List.length_take] at hp
  rw [List.getElem?_take, if_pos (by omega)]
  exact h p (by omega)
/-- A write that changes none of S. -/
def Harm (S : List UInt8) (q : Nat × List UInt8) : Prop := 2 ≤ q.1 ∧ q.2.length = 128 ∧ ∀ j, j < 128 → 128 * (q.1 - 2) + j < S.length → q.2[j]? = S[128 * (q.1 - 2) + j]?
theorem Holds.set {A : List (List UInt8)} {S : List UInt8} (hA : ∀ x ∈ A, x.length = 128) (h : Holds A S) {q : Nat × List UInt8} (hq : Harm S q) : Holds (A.set q.1 q.2) S := fun p hp => by
  have hf := h.fits
  rw [dataL_len hA] at hf
  obtain ⟨i, j, rfl, hj, hi⟩ := block_of (K := 128) (q := p) (n := A.length - 2) (by decide)
  have hil : 2 + i < A.length := by have := hi (by omega); omega
  have h1 := h _ hp
  rw [dataL_get hA hil hj] at h1
  rw [dataL_get (set_ok hA _ hq.2.1) (by rw [List.length_set]; exact hil) hj]
  by_cases e : q.1 = 2 + i
  · rw [e, getD_set_self hil]
    have := hq.2.2 j hj (by rw [e]; rw [Nat.add_sub_cancel_left]; exact hp)
    rw [this, e, Nat.add_sub_cancel_left]
  · rw [getD_set_other e]
    exact h1

/-! ### What a disk opens to -/
structure Opens (A : List (List UInt8)) (e : Nat) (S : List UInt8) : Prop where
  ok : ∀ x ∈ A, x.length = 128
  two : 2 ≤ A.length
  top : e ≤ 4611686018427387904
  cur : epochOf (A.getD (e % 2) []) = e
  len : lenOf (A.getD (e % 2) []) = S.length
  oth : epochOf (A.getD ((e + 1) % 2) []) + e % 2 ≤ e
  othn : lenOf (A.getD ((e + 1) % 2) []) ≤ 128 * (A.length - 2)
  data : Holds A S
theorem Opens.fits {A : List (List UInt8)} {e : Nat} {S : List UInt8} (h : Opens A e S) : S.length ≤ 128 * (A.length - 2) := by
  have := h.data.fits
  rwa [dataL_len h.ok] at this
theorem Opens.set {A : List (List UInt8)} {e : Nat} {S : List UInt8} (h : Opens A e S) {q : Nat × List UInt8} (hq : Harm S q) : Opens (A.set q.1 q.2) e S := by
  have h1 : q.1 ≠ e % 2 := by have := hq.1; omega
  have h2 : q.1 ≠ (e + 1) % 2 := by have := hq.1; omega
  exact ⟨set_ok h.ok _ hq.2.1, by rw [List.length_set]; exact h.two, h.top, by rw [getD_set_other h1]; exact h.cur, by rw [getD_set_other h1]; exact h.len, by rw [getD_set_other h2]; exact h.oth, by rw [getD_set_other h2, List.length_set]; exact h.othn, h.data.set h.ok hq⟩
theorem Opens.kept {e : Nat} {S : List UInt8} (keep : Nat) : ∀ (P : List (Nat × List UInt8)) (i : Nat) (A : List (List UInt8)), Opens A e S → (∀ q ∈ P, Harm S q) → Opens (keptL keep i P A) e S
  | [], _, _, h, _ => h
  | p :: r, i, A, h, hP => by
    rw [keptL]
    refine Opens.kept keep r (i + 1) _ ?_ (fun q hq => hP q (by simp [hq]))
    split
    · exact h.set (hP p (by simp))
    · exact h
theorem Opens.applied {e : Nat} {S : List UInt8} : ∀ (P : List (Nat × List UInt8)) (A : List (List UInt8)), Opens A e S → (∀ q ∈ P, Harm S q) → Opens (applyL P A) e S
  | [], _, h, _ => h
  | p :: r, A, h, hP => by
    rw [applyL]
    exact Opens.applied r _ (h.set (hP p (by simp))) (fun q hq => hP q (by simp [hq]))
theorem opens_new {n : Nat} (hn : 2 ≤ n) : Opens (List.replicate n (List.replicate 128 0)) 0 [] := by
  have e0 : (List.replicate n (List.replicate 128 (0 : UInt8))).getD 0 [] = List.replicate 128 0 := by rw [List.getD_eq_getElem?_getD, List.getElem?_eq_getElem (by rw [List.length_replicate]; omega), List.getElem_replicate]; rfl
  have e1 : (List.replicate n (List.replicate 128 (0 : UInt8))).getD 1 [] = List.replicate 128 0 := by rw [List.getD_eq_getElem?_getD, List.getElem?_eq_getElem (by rw [List.length_replicate]; omega), List.getElem_replicate]; rfl
  have z0 : epochOf (List.replicate 128 0) = 0 := by rw [epochOf, List.take_replicate, val_zeros]
  have z1 : lenOf (List.replicate 128 0) = 0 := by rw [lenOf, List.drop_replicate, List.take_replicate, val_zeros]
  exact ⟨fun x hx => by rw [(List.mem_replicate.1 hx).2]; rfl, by rw [List.length_replicate]; exact hn, by decide, by rw [e0, z0], by rw [e0, z1]; rfl, by rw [e1, z0]; decide, by rw [e1, z1]; exact Nat.zero_le _, fun p hp => by cases hp⟩
/-- The other slot is written: the batch counts. -/
theorem Opens.flip {A : List (List UInt8)} {e : Nat} {S S' : List UInt8} (h : Opens A e S) (h' : Holds A S') (he : e + 1 ≤ 4611686018427387904) (hn : A.length ≤ 16384) : Opens (A.set ((e + 1) % 2) (padN (slotB (e + 1) S'.length))) (e + 1) S' := by
  have hl : (e + 1) % 2 < A.length := by have := h.two; omega
  have hf := h'.fits
  rw [dataL_len h.ok] at hf
  have hx : (padN (slotB (e + 1) S'.length)).length = 128 := padN_len (by rw [slotB_len]; decide)
  have ho : (e + 1) % 2 ≠ (e + 1 + 1) % 2 := by omega
  have hc : (e + 1 + 1) % 2 = e % 2 := by omega
  refine ⟨set_ok h.ok _ hx, by rw [List.length_set]; exact h.two, he, by rw [getD_set_self hl, epochOf_slot (by omega)], by rw [getD_set_self hl, lenOf_slot (by omega)], ?_, ?_, ?_⟩
  · rw [getD_set_other ho, hc, h.cur]
    omega
  · rw [getD_set_other ho, hc, h.len, List.length_set]
    exact h.fits
  · intro p hp
    rw [dataL_slot (by omega)]
    exact h' p hp

/-! ### A batch's acts -/
/-- Nothing waits, and it opens. -/
structure Live (s : DS) (e : Nat) (S : List UInt8) : Prop where
  ok : s.Ok
  off : s.off = false
  pend : s.pend = []
  opens : Opens s.safe e S
/-- The power is gone, and it opens. -/
structure Down (s : DS) (e : Nat) (S : List UInt8) : Prop where
  ok : s.Ok
  off : s.off = true
  pend : s.pend = []
  fuse : s.fuse = 0
  opens : Opens s.safe e S
/-- The first k sectors of the new bytes are written. -/
structure Mid (s : DS) (e : Nat) (S S' : List UInt8) (k : Nat) : Prop where
  ok : s.Ok
  off : s.off = false
  opens : Opens s.safe e S
  harm : ∀ q ∈ s.pend, Harm S q
  pre : S = S'.take S.length
  fits : S'.length ≤ 128 * (s.safe.length - 2)
  data : Holds (nowS s) (S'.take (128 * k))
theorem Live.mid {s : DS} {e : Nat} {S S' : List UInt8} (h : Live s e S) (hp : S = S'.take S.length) (hf : S'.length ≤ 128 * (s.safe.length - 2)) : Mid s e S S' (S.length / 128) := by
  refine ⟨h.ok, h.off, h.opens, (fun q hq => by rw [h.pend] at hq; cases hq), hp, hf, ?_⟩
  have e1 : nowS s = s.safe := by rw [nowS, h.pend]; rfl
  have h1 := h.opens.data.mono (128 * (S.length / 128))
  have e2 : S.take (128 * (S.length / 128)) = S'.take (128 * (S.length / 128)) := by
    have h2 : S.take (128 * (S.length / 128)) = (S'.take S.length).take (128 * (S.length / 128)) := by rw [← hp]
    rw [h2, List.take_take]
    congr 1
    omega
  rw [e1, ← e2]
  exact h1
theorem failS_fuse {s : DS} (h : s.fuse = 0) : failS s = false := by simp [failS, h]
theorem actS_fail {s : DS} (h : failS s = true) (ho : s.off = false) : actS s = { s with safe := keptL s.keep 0 s.pend s.safe, pend := [], off := true, acts := s.acts + 1, fuse := 0 } := by
  have h1 : s.fuse = 1 := by simpa [failS] using h
  rw [actS_one h1, goneS, if_neg (by simp [ho])]
theorem actS_fuse {s : DS} (h : s.fuse = 0) : (actS s).fuse = 0 := by rw [actS_zero h]; exact h
/-- The bytes of a batch's sector. -/
def partS (S' : List UInt8) (k : Nat) : List UInt8 := (S'.drop (128 * k)).take 128
theorem partS_len (S' : List UInt8) (k : Nat) : (partS S' k).length ≤ 128 := by rw [partS, List.length_take]; omega
theorem partS_get {S' : List UInt8} {k j : Nat} (hj : j < 128) (h : 128 * k + j < S'.length) : (padN (partS S' k))[j]? = S'[128 * k + j]? := by
  rw [padN, List.getElem?_append_left (by rw [partS, List.length_take, List.length_drop]; omega), partS, List.getElem?_take, if_pos hj, List.getElem?_drop]
theorem part_harm {S S' : List UInt8} (hp : S = S'.take S.length) (k : Nat) : Harm S (2 + k, padN (partS S' k)) := by
  refine ⟨by simp only; omega, padN_len (partS_len _ _), fun j hj hl => ?_⟩
  simp only [Nat.add_sub_cancel_left] at hl ⊢
  have hle : S.length ≤ S'.length := by
    have := congrArg List.length hp
    rw [List.length_take] at this
    omega
  rw [partS_get hj (by omega)]
  conv => rhs; rw [hp]
  rw [List.getElem?_take, if_pos hl]
theorem Mid.why {s : DS} {e : Nat} {S S' : List UInt8} {k : Nat} (h : Mid s e S S' k) (hk : 128 * k < S'.length) : whyS s ((2 + k : Nat) : Int) = 0 := by
  have := h.fits
  rw [whyS, if_neg (by omega), if_neg (by rw [h.off]; decide)]
theorem Mid.writeE {s : DS} {e : Nat} {S S' : List UInt8} {k : Nat} (h : Mid s e S S' k) (hk : 128 * k < S'.length) : Go.Proofs.Ythnagnjcbgcnfaa.writeE s ((2 + k : Nat) : Int) (partS S' k) = if failS s then 7 else 0 := by
  have := partS_len S' k
  rw [Go.Proofs.Ythnagnjcbgcnfaa.writeE, if_pos (h.why hk), if_neg (by omega)]
theorem Mid.writeS {s : DS} {e : Nat} {S S' : List UInt8} {k : Nat} (h : Mid s e S S' k) (hk : 128 * k < S'.length) : Go.Proofs.Ythnagnjcbgcnfaa.writeS s ((2 + k : Nat) : Int) (partS S' k) = actS (putS s (2 + k) (partS S' k)) := by
  rw [Go.Proofs.Ythnagnjcbgcnfaa.writeS, if_pos ⟨h.why hk, partS_len _ _⟩, Int.toNat_natCast]
theorem Mid.put {s : DS} {e : Nat} {S S' : List UInt8} {k : Nat} (h : Mid s e S S' k) (hk : 128 * k < S'.length) : Mid (putS s (2 + k) (partS S' k)) e S S' (k + 1) := by
  have hf := h.fits
  have hlt : 2 + k < s.safe.length := by omega
  refine ⟨h.ok.put hlt (partS_len _ _), h.off, h.opens, fun q hq => ?_, h.pre, h.fits, ?_⟩
  · rcases List.mem_append.1 hq with hq | hq
    · exact h.harm q hq
    · obtain rfl := List.mem_singleton.1 hq
      exact part_harm h.pre k
  · rw [nowS_put]
    intro p hp
    rw [List.length_take] at hp
    have hnl : (nowS s).length = s.safe.length := nowS_len s
    have hok := h.ok.now
    obtain ⟨i, j, rfl, hj, hi⟩ := block_of (K := 128) (q := p) (n := s.safe.length - 2) (by decide)
    have hil : 2 + i < s.safe.length := by have := hi (by omega); omega
    rw [dataL_get (set_ok hok _ (padN_len (partS_len _ _))) (by rw [List.length_set, hnl]; exact hil) hj, List.getElem?_take, if_pos (by omega)]
    by_cases e1 : i = k
    · subst e1
      rw [getD_set_self (by rw [hnl]; exact hil)]
      exact partS_get hj (by omega)
    · rw [getD_set_other (by omega)]
      have h1 := h.data (128 * i + j) (by rw [List.length_take]; omega)
      rw [dataL_get hok (by rw [hnl]; exact hil) hj, List.getElem?_take, if_pos (by omega)] at h1
      exact h1
theorem Mid.act {s : DS} {e : Nat} {S S' : List UInt8} {k : Nat} (h : Mid s e S S' k) (hf : failS s = false) : Mid (actS s) e S S' k := by
  obtain ⟨h1, h2, h3⟩ := actS_keep hf
  exact ⟨h.ok.act, by rw [h3]; exact h.off, by rw [h2]; exact h.opens, by rw [h1]; exact h.harm, h.pre, by rw [h2]; exact h.fits, by rw [nowS, h1, h2]; exact h.data⟩
theorem Mid.down {s : DS} {e : Nat} {S S' : List UInt8} {k : Nat} (h : Mid s e S S' k) (hf : failS s = true) : Down (actS s) e S := by
  have hok := h.ok.act
  rw [actS_fail hf h.off] at hok ⊢
  exact ⟨hok, rfl, rfl, rfl, Opens.kept _ _ _ _ h.opens h.harm⟩
/-- A sector of a batch is written. -/
theorem Mid.write {s : DS} {e : Nat} {S S' : List UInt8} {k : Nat} (h : Mid s e S S' k) (hk : 128 * k < S'.length) (hf : failS s = false) : Mid (Go.Proofs.Ythnagnjcbgcnfaa.writeS s ((2 + k : Nat) : Int) (partS S' k)) e S S' (k + 1) := by
  rw [h.writeS hk]
  exact (h.put hk).act hf
theorem Mid.write_fails {s : DS} {e : Nat} {S S' : List UInt8} {k : Nat} (h : Mid s e S S' k) (hk : 128 * k < S'.length) (hf : failS s = true) : Down (Go.Proofs.Ythnagnjcbgcnfaa.writeS s ((2 + k : Nat) : Int) (partS S' k)) e S := by
  rw [h.writeS hk]
  exact (h.put hk).down hf
/-- All is written, and synced; the old slot counts. -/
structure Ready (s : DS) (e : Nat) (S S' : List UInt8) : Prop where
  live : Live s e S
  data : Holds s.safe S'
theorem Mid.sync {s : DS} {e : Nat} {S S' : List UInt8} {k : Nat} (h : Mid s e S S' k) (hk : S'.length ≤ 128 * k) (hf : failS s = false) : syncE s = 0 ∧ Ready (syncS s) e S S' := by
  obtain ⟨h1, h2, h3⟩ := actS_keep hf
  have e1 : syncS s = { actS s with safe := applyL s.pend s.safe, pend := [] } := by rw [syncS, if_neg (by rw [h.off]; decide), if_neg (by rw [hf]; decide)]
  refine ⟨by rw [syncE, if_neg (by rw [h.off, hf]; decide)], ⟨h.ok.sync, ?_, ?_, ?_⟩, ?_⟩
  · rw [e1]; exact h3.trans h.off
  · rw [e1]
  · rw [e1]; exact Opens.applied _ _ h.opens h.harm
  · rw [e1]
    have := h.data
    rw [List.take_of_length_le hk] at this
    exact this
theorem Mid.sync_fails {s : DS} {e : Nat} {S S' : List UInt8} {k : Nat} (h : Mid s e S S' k) (hf : failS s = true) : syncE s = 7 ∧ Down (syncS s) e S := by
  refine ⟨by rw [syncE, if_pos (.inr hf)], ?_⟩
  rw [syncS, if_neg (by rw [h.off]; decide), if_pos hf]
  exact h.down hf
/-- The slot is written, and waits. -/
structure Turning (s : DS) (e : Nat) (S S' : List UInt8) : Prop where
  ok : s.Ok
  off : s.off = false
  pend : s.pend = [((e + 1) % 2, padN (slotB (e + 1) S'.length))]
  old : Opens s.safe e S
  new : Opens (s.safe.set ((e + 1) % 2) (padN (slotB (e + 1) S'.length))) (e + 1) S'
theorem Ready.why {s : DS} {e : Nat} {S S' : List UInt8} (h : Ready s e S S') : whyS s (((e + 1) % 2 : Nat) : Int) = 0 := by
  have := h.live.opens.two
  rw [whyS, if_neg (by omega), if_neg (by rw [h.live.off]; decide)]
theorem Ready.writeE {s : DS} {e : Nat} {S S' : List UInt8} (h : Ready s e S S') : Go.Proofs.Ythnagnjcbgcnfaa.writeE s (((e + 1) % 2 : Nat) : Int) (slotB (e + 1) S'.length) = if failS s then 7 else 0 := by
  rw [Go.Proofs.Ythnagnjcbgcnfaa.writeE, if_pos h.why, if_neg (by rw [slotB_len]; decide)]
theorem Ready.writeS {s : DS} {e : Nat} {S S' : List UInt8} (h : Ready s e S S') : Go.Proofs.Ythnagnjcbgcnfaa.writeS s (((e + 1) % 2 : Nat) : Int) (slotB (e + 1) S'.length) = actS (putS s ((e + 1) % 2) (slotB (e + 1) S'.length)) := by
  rw [Go.Proofs.Ythnagnjcbgcnfaa.writeS, if_pos ⟨h.why, by rw [slotB_len]; decide⟩, Int.toNat_natCast]
theorem Ready.put {s : DS} {e : Nat} {S S' : List UInt8} (h : Ready s e S S') (he : e + 1 ≤ 4611686018427387904) (hn : s.safe.length ≤ 16384) : Turning (putS s ((e + 1) % 2) (slotB (e + 1) S'.length)) e S S' :=
  ⟨h.live.ok.put (by have := h.live.opens.two; omega) (by rw [slotB_len]; decide), h.live.off, by rw [putS, h.live.pend]; rfl, h.live.opens, h.live.opens.flip h.data he hn⟩
theorem Turning.act {s : DS} {e : Nat} {S S' : List UInt8} (h : Turning s e S S') (hf : failS s = false) : Turning (actS s) e S S' := by
  obtain ⟨h1, h2, h3⟩ := actS_keep hf
  exact ⟨h.ok.act, by rw [h3]; exact h.off, by rw [h1]; exact h.pend, by rw [h2]; exact h.old, by rw [h2]; exact h.new⟩
theorem Turning.down {s : DS} {e : Nat} {S S' : List UInt8} (h : Turning s e S S') (hf : failS s = true) : Down (actS s) e S ∨ Down (actS s) (e + 1) S' := by
  have hok := h.ok.act
  rw [actS_fail hf h.off] at hok ⊢
  have hk : keptL s.keep 0 s.pend s.safe = if s.keep / 2 ^ (0 % 64) % 2 = 1 then s.safe.set ((e + 1) % 2) (padN (slotB (e + 1) S'.length)) else s.safe := by rw [h.pend, keptL, keptL]
  by_cases hb : s.keep / 2 ^ (0 % 64) % 2 = 1
  · rw [if_pos hb] at hk
    exact .inr ⟨hok, rfl, rfl, rfl, by show Opens (keptL s.keep 0 s.pend s.safe) (e + 1) S'; rw [hk]; exact h.new⟩
  · rw [if_neg hb] at hk
    exact .inl ⟨hok, rfl, rfl, rfl, by show Opens (keptL s.keep 0 s.pend s.safe) e S; rw [hk]; exact h.old⟩
theorem Turning.sync {s : DS} {e : Nat} {S S' : List UInt8} (h : Turning s e S S') (hf : failS s = false) : syncE s = 0 ∧ Live (syncS s) (e + 1) S' := by
  obtain ⟨h1, h2, h3⟩ := actS_keep hf
  have e1 : syncS s = { actS s with safe := applyL s.pend s.safe, pend := [] } := by rw [syncS, if_neg (by rw [h.off]; decide), if_neg (by rw [hf]; decide)]
  refine ⟨by rw [syncE, if_neg (by rw [h.off, hf]; decide)], ⟨h.ok.sync, ?_, ?_, ?_⟩⟩
  · rw [e1]; exact h3.trans h.off
  · rw [e1]
  · rw [e1, h.pend]; exact h.new
theorem Turning.sync_fails {s : DS} {e : Nat} {S S' : List UInt8} (h : Turning s e S S') (hf : failS s = true) : syncE s = 7 ∧ (Down (syncS s) e S ∨ Down (syncS s) (e + 1) S') := by
  refine ⟨by rw [syncE, if_pos (.inr hf)], ?_⟩
  rw [syncS, if_neg (by rw [h.off]; decide), if_pos hf]
  exact h.down hf
end Go.Proofs.Ythnagnjcbgcnfaa
