/-
  The law ChainWords: for every input it answers true, and its arguments read as they did. Condition: the round constants' table lies as the program's text lays it (the card ties it).
-/
import Derived.BigQuiet
import Derived.BigRegion
import Derived.ChangeKeysEq
import Derived.Deep.Cut
import Derived.Deep.MidRow
import Derived.Deep.QuietTactic
import Derived.Deep.RegionWith
import Derived.Deep.Slices
import Derived.Great.BuildSlice
import Derived.Laws.CopyOwn
import Derived.Laws.IdiomCopy
import Derived.Laws.Rows
import Derived.Lib.BitFns
import Derived.Lib.BufferWrite
import Derived.Maps.AppendAt
import Derived.OpenShut
import Derived.StillTailTactics
import Derived.Stop.BytesEq
import Derived.Test.YtpfhlhcnmeodbaaDoorK01
import Derived.Test.YtpfhlhcnmeodbaaDoorK02
import Derived.Test.YtpfhlhcnmeodbaaDoorK03
import Derived.Test.YtpfhlhcnmeodbaaDoorK04
import Derived.Test.YtpfhlhcnmeodbaaDoorK05
import Derived.Test.YtpfhlhcnmeodbaaDoorK06
import Derived.Test.YtpfhlhcnmeodbaaDoorK07
import Derived.Test.YtpfhlhcnmeodbaaDoorK08
import Derived.Test.YtpfhlhcnmeodbaaDoorK09
import Derived.Test.YtpfhlhcnmeodbaaDoorK10
import Derived.Test.YtpfhlhcnmeodbaaDoorK11
namespace Go.Proofs.YtpfhlhcnmeodbaaDoor
theorem val_snoc (l : List UInt8) (d : UInt8) : val (l ++ [d]) = val l * 256 + d.toNat := by simp [val]
theorem val_dig (n : Nat) : val (dig n) = n := by
  induction n using Nat.strongRecOn with
  | ind n ih =>
    by_cases h : n = 0
    · subst h; rw [dig_zero]; rfl
    · rw [dig_pos h, val_snoc, ih (n / 256) (by omega), toNat_ofNat_mod]; omega
theorem numB_inj {a b : Nat} (h : numB a = numB b) : a = b := by
  have h2 : dig a = dig b := by simp only [numB, List.cons.injEq] at h; exact h.2
  rw [← val_dig a, ← val_dig b, h2]
def takeNum (s : List UInt8) : Option (Nat × List UInt8) :=
  match s with
  | [] => none
  | k :: t => if k.toNat ≤ t.length ∧ val (t.take k.toNat) < 9223372036854775808 ∧ numB (val (t.take k.toNat)) = k :: t.take k.toNat then some (val (t.take k.toNat), t.drop k.toNat) else none
theorem takeNum_numB {n : Nat} (h : n < 9223372036854775808) (r : List UInt8) : takeNum (numB n ++ r) = some (n, r) := by
  have h8 := dig_length_8 h
  have e : (UInt8.ofNat (dig n).length).toNat = (dig n).length := by simp; omega
  simp only [numB, List.cons_append, takeNum, e]
  rw [List.take_left, val_dig, List.drop_left]
  rw [if_pos ⟨by simp, h, rfl⟩]
def takeText (s : List UInt8) : Option (List UInt8 × List UInt8) :=
  match takeNum s with
  | none => none
  | some (n, r) => if n ≤ r.length then some (r.take n, r.drop n) else none
theorem takeText_textB {t : List UInt8} (h : t.length < 9223372036854775808) (r : List UInt8) : takeText (textB t ++ r) = some (t, r) := by
  simp only [takeText, textB, List.append_assoc, takeNum_numB h]
  rw [if_pos (by simp), List.take_left, List.drop_left]
def takeTexts : Nat → List UInt8 → Option (List (List UInt8) × List UInt8)
  | 0, s => some ([], s)
  | k + 1, s =>
    match takeText s with
    | none => none
    | some (t, r) => match takeTexts k r with
      | none => none
      | some (l, q) => some (t :: l, q)
theorem takeTexts_textsB : ∀ (l : List (List UInt8)) (r : List UInt8), (∀ t ∈ l, t.length < 9223372036854775808) → takeTexts l.length (textsB l ++ r) = some (l, r) := by
  intro l
  induction l with
  | nil => intro r _; simp [takeTexts, textsB]
  | cons t l ih =>
    intro r h
    simp only [List.length_cons, takeTexts, textsB_cons, List.append_assoc]
    rw [takeText_textB (h t (by simp))]
    simp only [ih r (fun t ht => h t (by simp [ht]))]
def takeList (s : List UInt8) : Option (List (List UInt8) × List UInt8) :=
  match takeNum s with
  | none => none
  | some (n, r) => if n ≤ 4096 then takeTexts n r else none
theorem takeList_listB {l : List (List UInt8)} (hl : l.length ≤ 4096) (h : ∀ t ∈ l, t.length < 9223372036854775808) (r : List UInt8) : takeList (listB l ++ r) = some (l, r) := by
  simp only [takeList, listB, List.append_assoc]
  rw [takeNum_numB (by omega)]
  simp only [hl, if_true, takeTexts_textsB l r h]
def splitB (s : List UInt8) : Option (List (List UInt8)) :=
  if 262144 < s.length then none else match takeList s with | some (l, []) => some l | _ => none
end Go.Proofs.YtpfhlhcnmeodbaaDoor
namespace Go.Proofs.YtpfhlhcnmeodbaaDoor
open Go.RowKit
theorem txt_byteNs (s : List UInt8) : txt (byteNs s) = s := by
  induction s with
  | nil => rfl
  | cons b s ih =>
    rw [byteNs, List.map_cons, txt, List.map_cons, show UInt8.ofNat b.toNat = b by simp]
    exact congrArg _ ih
end Go.Proofs.YtpfhlhcnmeodbaaDoor
namespace Go.Proofs.YtpfhlhcnmeodbaaDoor
open Go.RowKit
theorem listB_inj {a b : List (List UInt8)} (ha : a.length ≤ 4096) (hb : b.length ≤ 4096) (la : ∀ t ∈ a, t.length < 9223372036854775808) (lb : ∀ t ∈ b, t.length < 9223372036854775808) (h : listB a = listB b) : a = b := by
  have h1 := takeList_listB ha la []
  have h2 := takeList_listB hb lb []
  rw [List.append_nil] at h1 h2
  rw [h, h2] at h1
  simp only [Option.some.injEq, Prod.mk.injEq, and_true] at h1
  exact h1.symm
theorem splitB_listB {l : List (List UInt8)} (hl : l.length ≤ 4096) (h : (listB l).length ≤ 262144) : splitB (listB l) = some l := by
  have ht : ∀ t ∈ l, t.length < 9223372036854775808 := fun t ht => by
    have h1 := listB_length l
    have h2 : t.length ≤ (textsB l).length := by
      obtain ⟨q, hq, rfl⟩ := List.getElem_of_mem ht
      have := textsB_parts l q hq
      have := textB_length l[q]
      omega
    omega
  have h1 := takeList_listB hl ht []
  rw [List.append_nil] at h1
  unfold splitB
  rw [if_neg (by omega), h1]
def allNum (s : List UInt8) : Option Nat := match takeNum s with | some (n, []) => some n | _ => none
def readD (s : List UInt8) : Option DraftN := match splitB s with
  | some [k, key, val, r] => if r.length = 32 then (match allNum k with
    | some n => if GoodD ⟨n, key, val, byteNs r⟩ then some ⟨n, key, val, byteNs r⟩ else none
    | none => none) else none
  | _ => none
theorem allNum_numB {n : Nat} (h : n < 9223372036854775808) : allNum (numB n) = some n := by
  have := takeNum_numB h []
  rw [List.append_nil] at this
  rw [allNum, this]
theorem readD_draftB {d : DraftN} (hk : 0 ≤ d.kind ∧ d.kind < 9223372036854775808) (h1 : d.key.length ≤ 512) (h2 : d.val.length ≤ 512) (h3 : IdOk d.ref) : readD (draftB d) = if GoodD d then some d else none := by
  have hl := draftB_le hk.2 h1 h2 h3.1
  have hs : splitB (draftB d) = some [numB d.kind.toNat, d.key, d.val, txt d.ref] := splitB_listB (by simp) (by rw [← draftB]; omega)
  have hd : (⟨((d.kind.toNat : Nat) : Int), d.key, d.val, byteNs (txt d.ref)⟩ : DraftN) = d := by rw [byteNs_txt h3.2, Int.toNat_of_nonneg hk.1]
  unfold readD
  rw [hs]
  simp only
  rw [if_pos (by rw [txt_len]; exact h3.1), allNum_numB (by omega)]
  simp only [hd]
end Go.Proofs.YtpfhlhcnmeodbaaDoor
namespace Go.Proofs.YtpfhlhcnmeodbaaDoor
open Go.RowKit
def numI (s : List UInt8) : Int := match allNum s with | some n => n | none => -1
def candE : List (List UInt8) → EntN
  | [k, t] => if numI k = 1 then ⟨1, (readD t).getD noD, 0, 0, zeroI, 0, [], []⟩ else noE
  | [k, m, p] => if numI k = 3 then ⟨3, noD, 0, 0, zeroI, numI m, p, []⟩ else noE
  | [k, f, q, r, m, p, g] => if numI k = 2 ∧ r.length = 32 then ⟨2, noD, numI f, numI q, byteNs r, numI m, p, g⟩ else noE
  | _ => noE
def readE (s : List UInt8) : Option EntN := match splitB s with
  | some l => if GoodE (candE l) then some (candE l) else none
  | none => none
theorem numI_numB {n : Nat} (h : n < 9223372036854775808) : numI (numB n) = n := by rw [numI, allNum_numB h]
theorem partsE_len (e : EntN) : (partsE e).length ≤ 7 := by
  unfold partsE
  split
  · simp
  · split <;> simp
theorem candE_partsE {e : EntN} (h : GoodE e) (hf : e.Fit) : candE (partsE e) = e := by
  obtain ⟨kind, d, src, seq, prev, mask, pay, sig⟩ := e
  have hs := hf.seq
  have hp := hf.ok.prev
  have hr := hf.ok.ref
  simp only at hs hp hr
  rcases h with ⟨hk, hd, ⟨b1, b2, b3, b4⟩, hm, hy⟩ | ⟨hk, ⟨h1, h2, h3⟩, hd, h4, h5, h6, h7⟩ | ⟨hk, ⟨h1, h2, h3⟩, hd, b1, b2, b3, b4⟩
  · simp only at hk hd b1 b2 b3 b4 hm hy
    subst hk b1 b2 b3 b4 hm hy
    have h1 : readD (draftB d) = some d := by
      rw [readD_draftB ⟨by have := hd.1; omega, by have := hd.2.1; omega⟩ (by have := hd.2.2.2.1; omega) (by have := hd.2.2.2.2.1; omega) hr, if_pos hd]
    simp only [partsE, if_true, candE]
    rw [if_pos (show numI (numB 1) = 1 from numI_numB (by decide)), h1]
    rfl
  · simp only at hk h1 h2 h3 hd h4 h5 h6 h7
    subst hk hd
    simp only [partsE]
    rw [if_neg (by decide), if_pos trivial]
    simp only [candE]
    rw [if_pos ⟨show numI (numB 2) = 2 from numI_numB (by decide), by rw [txt_len]; exact hp.1⟩, numI_numB (by omega), numI_numB (by omega), numI_numB (by omega), byteNs_txt hp.2]
    simp only [EntN.mk.injEq, true_and, and_true]
    omega
  · simp only at hk h1 h2 h3 hd b1 b2 b3 b4
    subst hk hd b1 b2 b3 b4
    simp only [partsE]
    rw [if_neg (by decide), if_neg (by decide)]
    simp only [candE]
    rw [if_pos (show numI (numB 3) = 3 from numI_numB (by decide)), numI_numB (by omega)]
    simp only [EntN.mk.injEq, true_and, and_true]
    omega
theorem readE_nil : readE [] = none := by decide +kernel
theorem readE_entB {e : EntN} (hf : e.Fit) : readE (entB e) = if GoodE e then some e else none := by
  by_cases h : GoodE e
  · rw [if_pos h, entB_good h, readE, splitB_listB (Nat.le_trans (partsE_len e) (by decide)) (Nat.le_trans (partsE_le h hf) (by decide))]
    simp only
    rw [candE_partsE h hf, if_pos h]
  · rw [if_neg h, entB_bad h, readE_nil]
theorem entB_inj {a b : EntN} (fa : a.Fit) (fb : b.Fit) (ha : GoodE a) (hb : GoodE b) (h : entB a = entB b) : a = b := by
  have h1 := readE_entB fa
  have h2 := readE_entB fb
  rw [if_pos ha, h] at h1
  rw [if_pos hb, h1] at h2
  exact Option.some.inj h2
end Go.Proofs.YtpfhlhcnmeodbaaDoor
namespace Go.Proofs.YtpfhlhcnmeodbaaDoor
open Go.RowKit
def sgnF (seed : List UInt8) (i : Int) (d : List Nat) (j : Nat) : List Nat := walkI (secN seed i j) (placeB i j) 0 ((digN d).getD j 0 : Nat)
def signN (seed : List UInt8) (i : Int) (d : List Nat) : List UInt8 := rowE (sgnF seed i d) 35
theorem sgnF_len (seed : List UInt8) (i : Int) (d : List Nat) (j : Nat) : (sgnF seed i d j).length = 16 := walkI_len (secN_len _ _ _) _ _ _
theorem signN_len (seed : List UInt8) (i : Int) (d : List Nat) : (signN seed i d).length = 560 := rowE_len (sgnF_len seed i d) 35
end Go.Proofs.YtpfhlhcnmeodbaaDoor
namespace Go.Proofs.YtpfhlhcnmeodbaaDoor
open Go.RowKit Go.ChangeShapes Go.WideShapes
theorem Elems.take {L : List (List Nat)} (h : Elems L) (n : Nat) : Elems (L.take n) := fun x hx => h x (List.mem_of_mem_take hx)
theorem take_next {L : List (List Nat)} {k : Nat} (h : k < L.length) : L.take (k + 1) = L.take k ++ [L.getD k []] := by
  rw [List.take_succ_eq_append_getElem h, List.getD_eq_getElem?_getD, List.getElem?_eq_getElem h]
  rfl
theorem take_len {L : List (List Nat)} {k : Nat} (h : k ≤ L.length) : (L.take k).length = k := by rw [List.length_take]; omega
end Go.Proofs.YtpfhlhcnmeodbaaDoor
namespace Go.Proofs.YtpfhlhcnmeodbaaDoor
open Go.RowKit
def sibN (i : Nat) : Nat := if i % 2 = 1 then i - 1 else i + 1
theorem sibN_lt {i m : Nat} (h : i < 2 * m) : sibN i < 2 * m := by unfold sibN; split <;> omega
def pathN (L : List (List Nat)) (i : Nat) (j : Nat) : List (List Nat) := (List.range j).map fun k => atN L k (sibN (i / 2 ^ k))
theorem pathN_len (L : List (List Nat)) (i j : Nat) : (pathN L i j).length = j := by simp [pathN]
theorem pathN_next (L : List (List Nat)) (i j : Nat) : pathN L i (j + 1) = pathN L i j ++ [atN L j (sibN (i / 2 ^ j))] := by simp [pathN, List.range_succ]
theorem xor_one_i64 {q : Nat} (h : q < 256) : (BitVec.ofInt 64 (q : Int) ^^^ BitVec.ofInt 64 1).toNat = sibN q := by
  have key : ∀ q : Fin 256, (BitVec.ofInt 64 (q.val : Int) ^^^ BitVec.ofInt 64 1).toNat = sibN q.val := by decide +kernel
  exact key ⟨q, h⟩
theorem pathN_ok {L : List (List Nat)} (hL : Elems L) {h i j : Nat} (hn : L.length = 2 ^ h) (hi : i < L.length) (hj : j ≤ h) : Elems (pathN L i j) := by
  intro x hx
  obtain ⟨k, hk, rfl⟩ := List.mem_map.1 hx
  have hk2 := List.mem_range.1 hk
  have h1 : 2 ^ h = 2 ^ (h - k) * 2 ^ k := by rw [← Nat.pow_add, Nat.sub_add_cancel (by omega)]
  have h2 : i / 2 ^ k < 2 ^ (h - k) := by
    rw [Nat.div_lt_iff_lt_mul (Nat.two_pow_pos k), ← h1, ← hn]; exact hi
  have h3 : sibN (i / 2 ^ k) < 2 ^ (h - k) := by
    obtain ⟨m, hm⟩ : ∃ m, 2 ^ (h - k) = 2 * m := ⟨2 ^ (h - k - 1), by rw [← Nat.pow_succ']; congr 1; omega⟩
    rw [hm] at h2 ⊢
    exact sibN_lt h2
  refine atN_ok hL k _ ?_
  rw [hn, h1]
  exact Nat.mul_lt_mul_of_pos_right h3 (Nat.two_pow_pos k)
theorem sib_lt {h k i : Nat} (hk : k < h) (hi : i < 2 ^ h) : sibN (i / 2 ^ k) < 2 ^ h / 2 ^ k := by
  rw [Nat.pow_div (by omega) (by decide)]
  have h1 : 2 ^ h = 2 ^ (h - k) * 2 ^ k := by rw [← Nat.pow_add, Nat.sub_add_cancel (by omega)]
  have h2 : i / 2 ^ k < 2 ^ (h - k) := by
    rw [Nat.div_lt_iff_lt_mul (Nat.two_pow_pos k), ← h1]; exact hi
  obtain ⟨m, hm⟩ : ∃ m, 2 ^ (h - k) = 2 * m := ⟨2 ^ (h - k - 1), by rw [← Nat.pow_succ']; congr 1; omega⟩
  rw [hm] at h2 ⊢
  exact sibN_lt h2
def partR (L : List (List Nat)) (i m j : Nat) : List (List Nat) := pathN L i j ++ List.replicate (m - j) (List.replicate 16 0)
theorem partR_len (L : List (List Nat)) (i : Nat) {m j : Nat} (h : j ≤ m) : (partR L i m j).length = m := by
  rw [partR, List.length_append, pathN_len, List.length_replicate]; omega
theorem partR_zero (L : List (List Nat)) (i m : Nat) : partR L i m 0 = List.replicate m (List.replicate 16 0) := by simp [partR, pathN]
theorem partR_full (L : List (List Nat)) (i m : Nat) : partR L i m m = pathN L i m := by simp [partR]
theorem partR_set (L : List (List Nat)) (i : Nat) {m j : Nat} (h : j < m) : (partR L i m j).set j (atN L j (sibN (i / 2 ^ j))) = partR L i m (j + 1) := by
  rw [partR, partR, pathN_next, List.set_append_right _ _ (by rw [pathN_len]; omega), pathN_len, Nat.sub_self, show m - j = (m - (j + 1)) + 1 by omega, List.replicate_succ, List.set_cons_zero, List.append_assoc]
  rfl
end Go.Proofs.YtpfhlhcnmeodbaaDoor
namespace Go.Proofs.YtpfhlhcnmeodbaaDoor
open Go.RowKit
def flatT (P : List (List Nat)) : List UInt8 := P.flatMap txt
theorem flatT_len {P : List (List Nat)} (h : Elems P) : (flatT P).length = 16 * P.length := by
  induction P with
  | nil => rfl
  | cons x P ih =>
    have h1 := (h x (by simp)).1
    have h2 := ih fun y hy => h y (by simp [hy])
    simp only [flatT, List.flatMap_cons, List.length_append, txt_len, List.length_cons] at *
    omega
def signK (seed : List UInt8) (h i : Nat) (text : List UInt8) : List UInt8 := signN seed i (digK (rootK seed h) i text) ++ flatT (pathN (leavesN seed (2 ^ h)) i h)
theorem pathK_ok (seed : List UInt8) {h i : Nat} (hi : i < 2 ^ h) : Elems (pathN (leavesN seed (2 ^ h)) i h) := pathN_ok (leavesN_ok _ _) (leavesN_len _ _) (by rw [leavesN_len]; exact hi) (Nat.le_refl _)
theorem signK_len (seed : List UInt8) {h i : Nat} (hi : i < 2 ^ h) (text : List UInt8) : (signK seed h i text).length = 560 + 16 * h := by
  rw [signK, List.length_append, signN_len, flatT_len (pathK_ok seed hi), pathN_len]
end Go.Proofs.YtpfhlhcnmeodbaaDoor
namespace Go.Proofs.YtpfhlhcnmeodbaaDoor
open Go.RowKit
theorem linkT_inj {p q : List Nat} (hp : IdOk p) (hq : IdOk q) {i k : Int} (hi : 0 ≤ i ∧ i ≤ 9223372036854775807) (hk : 0 ≤ k ∧ k ≤ 9223372036854775807) {a b : EntN} (fa : a.Fit) (fb : b.Fit) (ga : GoodE a) (gb : GoodE b) (h : linkT p i a = linkT q k b) : p = q ∧ i = k ∧ a = b := by
  have t1 := txt_len p
  have t2 := txt_len q
  have p1 := hp.1
  have q1 := hq.1
  have n1 := numB_len9 (n := i.toNat) (by omega)
  have n2 := numB_len9 (n := k.toNat) (by omega)
  have e1 := entB_le fa
  have e2 := entB_le fb
  have hl := listB_inj (by simp) (by simp) (fun t ht => by simp only [List.mem_cons, List.not_mem_nil, or_false] at ht; rcases ht with rfl | rfl | rfl | rfl <;> first | decide | omega) (fun t ht => by simp only [List.mem_cons, List.not_mem_nil, or_false] at ht; rcases ht with rfl | rfl | rfl | rfl <;> first | decide | omega) h
  simp only [List.cons.injEq, and_true, true_and] at hl
  obtain ⟨h1, h2, h3⟩ := hl
  have h4 := numB_inj h2
  exact ⟨txt_inj hp.2 hq.2 h1, by omega, entB_inj fa fb ga gb h3⟩
theorem wordB_inj {n m i k : Int} {g h : List Nat} (hn : 0 ≤ n ∧ n ≤ 9223372036854775807) (hm : 0 ≤ m ∧ m ≤ 9223372036854775807) (hi : 0 ≤ i ∧ i ≤ 9223372036854775807) (hk : 0 ≤ k ∧ k ≤ 9223372036854775807) (hg : IdOk g) (hh : IdOk h) (e : wordB n i g = wordB m k h) : n = m ∧ i = k ∧ g = h := by
  have t1 := txt_len g
  have t2 := txt_len h
  have p1 := hg.1
  have q1 := hh.1
  have n1 := numB_len9 (n := n.toNat) (by omega)
  have n2 := numB_len9 (n := m.toNat) (by omega)
  have n3 := numB_len9 (n := i.toNat) (by omega)
  have n4 := numB_len9 (n := k.toNat) (by omega)
  have hl := listB_inj (by simp) (by simp) (fun t ht => by simp only [List.mem_cons, List.not_mem_nil, or_false] at ht; rcases ht with rfl | rfl | rfl | rfl <;> first | decide | omega) (fun t ht => by simp only [List.mem_cons, List.not_mem_nil, or_false] at ht; rcases ht with rfl | rfl | rfl | rfl <;> first | decide | omega) e
  simp only [List.cons.injEq, and_true, true_and] at hl
  obtain ⟨h1, h2, h3⟩ := hl
  have h4 := numB_inj h1
  have h5 := numB_inj h2
  exact ⟨by omega, by omega, txt_inj hg.2 hh.2 h3⟩
end Go.Proofs.YtpfhlhcnmeodbaaDoor
namespace Go.Proofs.YtpfhlhcnmeodbaaDoor
open Go.RowKit Go.ChangeShapes Go.WideShapes Go.Deep
theorem open_name {H : Type} {enc : TypeId × Value → H} {P : Program} {W : World} {v : Value} {d : DataW H} {p : List MemPlace} {base : Nat} {t u : TypeId} (hu : P.underlying t = some (.array 32 u)) (he : P.underlying u = some (.int .u8)) (hone : P.cellsOf u = 1) (hsz : P.cellsOf t = 32)
    (hv : Value.okWide P W .any base t v) (h : DataW.Trod enc P W 0 (fun _ => true) true t v d p) : ∃ l : List Nat, v = .agg (nums .u8 l).toArray ∧ IdOk l := by
  simp only [Value.okWide, hu] at hv
  obtain ⟨cs, rfl, hcs, _⟩ := hv
  obtain ⟨fuel, hf⟩ := h
  obtain ⟨l, e, h1, h2⟩ := trod_bytesI hu he hone hsz hf
  exact ⟨l, congrArg Value.agg (Array.ext' (by rw [List.toList_toArray]; exact e)), h1, h2⟩
end Go.Proofs.YtpfhlhcnmeodbaaDoor
namespace Go.Proofs.YtpfhlhcnmeodbaaDoor
open Go.RowKit Go.BigFrame
theorem fill_aut (i off size : Nat) (v : Value) (rest : List (Nat × Value)) (a b : AuthN) (xs ys zs vs : List Value) (hp : placeA i = some (off, size)) (ha : autL a = xs ++ (ys ++ zs)) (hb : autL b = xs ++ (vs ++ zs)) (hv : v.cells.toList = vs) (h1 : vs.length = size) (h2 : ys.length = size) (h3 : xs.length = off) :
    Instr.fill placeA (autV a) ((i, v) :: rest) = Instr.fill placeA (autV b) rest := by
  rw [autV, autV, ha, hb]
  exact fill_lay placeA i off size v rest xs ys zs vs hp hv h1 h2 h3
section
variable (a : AuthN) (rest : List (Nat × Value))
theorem fillA_node (k : Int) : Instr.fill placeA (autV a) ((0, .int .i64 k) :: rest) = Instr.fill placeA (autV { a with node := k }) rest :=
  fill_aut 0 0 1 _ rest a { a with node := k } [] [.int .i64 a.node] ([.int .i64 a.seq] ++ (nums .u8 a.hash ++ [.string ⟨a.sig.toArray⟩])) [.int .i64 k] rfl (by simp [autL]) (by simp [autL]) rfl rfl rfl rfl
theorem fillA_seq (k : Int) : Instr.fill placeA (autV a) ((1, .int .i64 k) :: rest) = Instr.fill placeA (autV { a with seq := k }) rest :=
  fill_aut 1 1 1 _ rest a { a with seq := k } [.int .i64 a.node] [.int .i64 a.seq] (nums .u8 a.hash ++ [.string ⟨a.sig.toArray⟩]) [.int .i64 k] rfl (by simp [autL]) (by simp [autL]) rfl rfl rfl rfl
theorem fillA_hash (ha : IdOk a.hash) (p : List Nat) (hp : IdOk p) : Instr.fill placeA (autV a) ((2, .agg (nums .u8 p).toArray) :: rest) = Instr.fill placeA (autV { a with hash := p }) rest :=
  fill_aut 2 2 32 _ rest a { a with hash := p } [.int .i64 a.node, .int .i64 a.seq] (nums .u8 a.hash) [.string ⟨a.sig.toArray⟩] (nums .u8 p) rfl (by simp [autL]) (by simp [autL]) rfl (by rw [nums_len, hp.1]) (by rw [nums_len, ha.1]) rfl
theorem fillA_sig (ha : IdOk a.hash) (s : List UInt8) : Instr.fill placeA (autV a) ((3, .string ⟨s.toArray⟩) :: rest) = Instr.fill placeA (autV { a with sig := s }) rest :=
  fill_aut 3 34 1 _ rest a { a with sig := s } ([.int .i64 a.node, .int .i64 a.seq] ++ nums .u8 a.hash) [.string ⟨a.sig.toArray⟩] [] [.string ⟨s.toArray⟩] rfl (by simp [autL]) (by simp [autL]) rfl rfl rfl (by simp [nums_len, ha.1])
end
theorem built_aut (a : AuthN) (ha : IdOk a.hash) : Tryd.prog.built 26 [(0, .int .i64 a.node), (1, .int .i64 a.seq), (2, .agg (nums .u8 a.hash).toArray), (3, .string ⟨a.sig.toArray⟩)] = some (autV a) := by
  rw [aut_fill, fillA_node, fillA_seq, fillA_hash _ _ zeroI_ok _ ha]
  exact (fillA_sig ⟨a.node, a.seq, a.hash, []⟩ [] ha a.sig).trans (by rw [fill_end])
end Go.Proofs.YtpfhlhcnmeodbaaDoor
namespace Go.Proofs.YtpfhlhcnmeodbaaDoor
open Go.RowKit Go.BigFrame
theorem OwnT.room {B g n c j : Nat} {e : TypeId} {k : IntKind} {l : List Nat} {w : World} (h : OwnT B e k (.slice (some ⟨g, 0, none⟩) n c) l w) (hj : j < c) : (w.cell? ⟨g, j, none⟩).isSome = true ∧ w.frozen? ⟨g, j, none⟩ = false := by
  obtain ⟨g', cap, cur, fz, hv, hb, hg, hfz, hlc, hcm, hcs, htk⟩ := h
  simp only [Value.slice.injEq, Option.some.injEq, Addr.mk.injEq, and_true] at hv
  obtain ⟨rfl, _, rfl⟩ := hv
  refine ⟨?_, ?_⟩
  · rw [Lib.cell_of_heap hg j, Array.getElem?_eq_getElem (by omega)]
    rfl
  · obtain ⟨lo, hi⟩ := fz
    simp only [World.frozen?, hg, Bool.and_eq_false_iff, decide_eq_false_iff_not]
    simp only at hfz
    rcases hfz with h | h
    · right; omega
    · left; omega
theorem OwnT.push {B g c : Nat} {e : TypeId} {k : IntKind} {l : List Nat} {w : World} (h : OwnT B e k (.slice (some ⟨g, 0, none⟩) l.length c) l w) (hr : l.length + 1 ≤ c) (x : Nat) :
    OwnT B e k (.slice (some ⟨g, 0, none⟩) (l ++ [x]).length c) (l ++ [x]) (w.setCell ⟨g, l.length, none⟩ (.int k (x : Int))) := by
  obtain ⟨g', cap, cur, fz, hv, hb, hg, hfz, hlc, hcm, hcs, htk⟩ := h
  simp only [Value.slice.injEq, Option.some.injEq, Addr.mk.injEq, and_true, true_and] at hv
  obtain ⟨rfl, rfl⟩ := hv
  refine ⟨g, c, _, fz, rfl, hb, heap_setCell_at hg, hfz, by simpa using hr, hcm, by simpa using hcs, ?_⟩
  rw [Array.toList_setIfInBounds, nums_snoc, ← htk, List.length_append, List.length_singleton]
  have hl : l.length < (cur.toList.set l.length (.int k x)).length := by simp; omega
  rw [List.take_succ_eq_append_getElem hl, List.take_set_of_le (Nat.le_refl _)]
  simp
theorem OwnT.pushes {B g c : Nat} {e : TypeId} {k : IntKind} : ∀ (m l : List Nat) (w : World), OwnT B e k (.slice (some ⟨g, 0, none⟩) l.length c) l w → l.length + m.length ≤ c →
    OwnT B e k (.slice (some ⟨g, 0, none⟩) (l ++ m).length c) (l ++ m) (w.setCells g l.length (nums k m))
  | [], l, w, h, _ => by rw [List.append_nil]; exact h
  | x :: m, l, w, h, hr => by
    simp only [List.length_cons] at hr
    have h2 := OwnT.pushes m (l ++ [x]) _ (h.push (by omega) x) (by simp; omega)
    rw [List.append_assoc, List.singleton_append, show (l ++ [x]).length = l.length + 1 by simp] at h2
    exact h2
theorem run_append_tails {P : Program} (w : World) (base : Nat) (t ty e : TypeId) (i : TypeInfo) (z : Value) (bytes : Nat) (k : IntKind) (ht : P.underlying t = some (.slice e)) (hi : P.info? e = some i) (hz : i.zero = some z)
    (hsize : i.size = 1) (hby : i.bytes = bytes) (hzs : z.cells.size = 1) (v : Value) (l m : List Nat) (hown : OwnT base e k v l w)
    (a : Addr) (c : Nat) (hnews : ∀ j u, (nums k m)[j]? = some u → w.cell? (a.add j) = some u) (h63 : l.length + m.length ≤ maxLen) (hbytes : (l.length + m.length) * bytes ≤ 140737488355328) (hbase : base ≤ w.heap.size) :
    ∃ v' w', (Builtin.append_ #[t, t] ty #[v, .slice (some a) m.length c]).run P w = .ok v' w' ∧ OwnT base e k v' (l ++ m) w' ∧ Below base w w' := by
  have hcells : ∀ g, v.ownBlock = some g → ∀ j (hj : j < l.length), w.cell? ⟨g, j, none⟩ = some (.int k (l[j] : Int)) := fun g hg => hown.cells hg
  obtain ⟨g, cap, rfl⟩ := hown.form
  have hb := (hown.lt g rfl).1
  have hsmall : l.length + m.length ≤ 9223372036854775807 := by simp only [maxLen] at h63; omega
  have hnl : (nums k m).length = m.length * i.size := by rw [nums_len, hsize, Nat.mul_one]
  by_cases hroom : l.length + m.length ≤ cap
  · have hf := run_firstCells_some (P := P) w i.size m.length a m.length c (nums k m) hnl hnews
    rw [hsize] at hf
    have hst := run_storeCells_cells (P := P) g l.length (nums k m) 0 w (by rw [nums_len]; intro j hj; exact (hown.room (by omega)).1) (by rw [nums_len]; intro j hj; exact (hown.room (by omega)).2) (nums_one k m)
    rw [Nat.add_zero] at hst
    have ho := OwnT.pushes m l w hown hroom
    rw [List.length_append] at ho
    refine ⟨.slice (some ⟨g, 0, none⟩) (l.length + m.length) cap, w.setCells g l.length (nums k m), ?_, ho, But.toBelow (Below.refl base w) (But.setCells _ _ _ (But.refl g w)) hb hbase⟩
    simp [Builtin.append_, run_underlying ht, sizeOf, typeInfo, hi, hsize, Builtin.lenOf, hroom, hf, Addr.add_lit, hst]
  · have hr := run_append_grow (P := P) w t ty e i z ht hi hz ⟨g, 0, none⟩ l.length cap (nums k l) (by rw [nums_len, hsize, Nat.mul_one]) (fun j u hj => by
        have hj' : j < l.length := by
          have := (List.getElem?_eq_some_iff.1 hj).1
          rwa [nums_len] at this
        rw [Addr.add_lit, Nat.zero_add, hcells g rfl j hj', ← hj]
        simp [nums, List.getElem?_eq_getElem hj']) a m.length c (nums k m) hnl hnews (by omega) (by omega) (growslice_fits (by omega) (by rw [hby]; exact hbytes))
    have hge := grownCap_ge w (l.length + m.length) cap e
    have hcm2 := grownCap_le_maxLen w (l.length + m.length) cap e h63
    refine ⟨_, _, hr, ⟨w.heap.size, _, _, (0, 0), by rw [List.length_append], hbase, heap_alloc_new w.drew _, Or.inl rfl, by rw [List.length_append]; exact hge, hcm2, ?_, ?_⟩, (drawn_below (Below.refl base w) 1).alloc (by show base ≤ w.heap.size; exact hbase) _⟩
    · simp only [Array.size_append, List.size_toArray, size_zeroCells, hzs, nums_len]
      omega
    · rw [show nums k (l ++ m) = nums k l ++ nums k m by simp [nums]]
      simp only [Array.toList_append, List.length_append]
      rw [List.take_append_of_le_length (by simp [nums_len]), List.take_of_length_le (by simp [nums_len])]
theorem wpList_append_tails {P : Program} {w : World} {ops : Array Oper} {rest : List Oper} {o : Oper} {a : Act} {Q : Exit → Act → World → Prop} (hgd : o.guard = none) (s x : Operand) (t e : TypeId)
    (ho : o.op = .call { callee := .builtin .append, args := #[s, x], argTypes := #[t, t] })
    (B : Nat) (k : IntKind) (bytes : Nat) (ht : P.underlying t = some (.slice e)) (hinfo : (P.info? e).map (fun i => (i.zero, i.size, i.bytes)) = some (some (.int k 0), 1, bytes))
    (v : Value) (l m : List Nat) (ad : Addr) (n c : Nat) (hn : n = m.length) (hs : a.eval s = v) (hown : OwnT B e k v l w) (hx : a.eval x = .slice (some ad) n c) (hnews : ∀ j u, (nums k m)[j]? = some u → w.cell? (ad.add j) = some u)
    (h63 : l.length + m.length ≤ maxLen) (hbytes : (l.length + m.length) * bytes ≤ 140737488355328) (hB : B ≤ w.heap.size)
    (h : ∀ v' w', Hid (OwnT B e k v' (l ++ m) w') → Hid (Below B w w') → wpList P ops Q rest (a.put o.dst v') w') : wpList P ops Q (o :: rest) a w := by
  obtain ⟨i, hi, hz0, hz1, hz2⟩ := info_parts hinfo
  subst hn
  obtain ⟨v', w', hr, h1, h2⟩ := run_append_tails (P := P) w B t o.type e i (.int k 0) bytes k ht hi hz0 hz1 hz2 rfl v l m hown ad c hnews h63 hbytes hB
  refine wpList_plain hgd fun K hK => ?_
  unfold Oper.wp
  simp [execOp, ho, resolve, invoke, builtin, hs, hx, hr, Result.andThen]
  exact hK _ _ (h _ _ h1 h2)
end Go.Proofs.YtpfhlhcnmeodbaaDoor
namespace Go.Proofs.YtpfhlhcnmeodbaaDoor
open Go.RowKit Go.BigFrame
theorem bits_xor_one {q : Nat} (h : q < 256) : bits .xor .i64 (q : Int) 1 = ((sibN q : Nat) : Int) := by
  have key : ∀ n : Fin 300, IntKind.i64.wrap (n.val : Int) = (n.val : Int) := by decide +kernel
  show IntKind.i64.wrap ((BitVec.ofInt 64 (q : Int) ^^^ BitVec.ofInt 64 1).toNat : Int) = _
  rw [xor_one_i64 h]
  exact key ⟨sibN q, by unfold sibN; split <;> omega⟩
set_option maxHeartbeats 1000000 in
set_option maxRecDepth 100000 in
theorem dev_path_not (n : Nat) (i : Int) (ao : Option Addr) (cap : Nat) (w : World) (hn : n ≤ 9000000000000) (hbad : goodN n = false ∨ i < 0 ∨ (n : Int) ≤ i) :
    Calls Tryd.prog 53 #[.int .i64 i, .slice ao n cap] w fun e w' => e = .returned (.tuple #[.slice none 0 0, .int .i64 1]) ∧ Below w.heap.size w w' := by
  go_enter Tryd.func53, Tryd.ntmps53
  go_wp2_with fail
  refine (dev_permitted n w hn).mono ?_
  rintro e w2 ⟨rfl, rfl⟩
  cases hg : goodN n with
  | false =>
    clear hg hbad
    go_wp2_with fail
    go_ret2
    exact ⟨rfl, Below.refl _ _⟩
  | true =>
    rw [hg] at hbad
    clear hg
    by_cases h0 : i < 0
    · clear hbad
      go_wp2_with fail
      go_ret2
      exact ⟨rfl, Below.refl _ _⟩
    · have h1 : (n : Int) ≤ i := by
        rcases hbad with h | h | h
        · cases h
        · exact absurd h h0
        · exact h
      clear hbad
      go_wp2_with fail
      go_ret2
      exact ⟨rfl, Below.refl _ _⟩
set_option maxHeartbeats 1000000 in
set_option maxRecDepth 100000 in
theorem dev_path (L : List (List Nat)) (h i : Nat) (ao : Option Addr) (cap : Nat) (w : World) (hL : Elems L) (hE : EAt ao L w) (hg : goodN L.length = true) (hn : L.length = 2 ^ h) (h8 : h ≤ 8) (hi : i < L.length) (hkat : KAt w) :
    Calls Tryd.prog 53 #[.int .i64 i, .slice ao L.length cap] w fun e w' => (∃ v, e = .returned (.tuple #[v, .int .i64 0]) ∧ OwnE w.heap.size 61 v (pathN L i h) w') ∧ Below w.heap.size w w' := by
  obtain ⟨i0, hi0, hz0, hz1, hz2⟩ := info_parts Tryd.infoE16
  have HIF := Lib.hid hi0
  have HZ0 := Lib.hid hz0
  have HZ1 := Lib.hid hz1
  have HZ2 := Lib.hid hz2
  have HG := Shut.mk hg
  have HN := Shut.mk hn
  have HE := Lib.hid hE
  have LE := Lib.hid hL
  have HK := Lib.hid hkat
  have h256 := goodN_le hg
  have HPO := Lib.hid (pathN_ok hL hn hi (Nat.le_refl h))
  have HSI := Lib.hid (fun k (hk : k < h) => show sibN (i / 2 ^ k) < L.length / 2 ^ k by rw [hn]; exact sib_lt hk (by rw [← hn]; exact hi))
  have HQ := Lib.hid (fun k => show i / 2 ^ k < 256 from Nat.lt_of_le_of_lt (Nat.div_le_self _ _) (by omega))
  clear hg hn hE hL hkat hi0 hz0 hz1 hz2
  go_enter Tryd.func53, Tryd.ntmps53
  go_wp2_with fail
  refine (dev_permitted L.length w (by omega)).mono ?_
  rintro e w2 ⟨rfl, rfl⟩
  rw [HG.out]
  have hlt : ¬ (L.length : Int) ≤ (i : Int) := by omega
  go_wp2_with fail
  refine (dev_levels L h ao cap w2 LE.out HE.out HN.out h8 HK.out).mono ?_
  rintro e w3 ⟨⟨v, S, rfl, hov, hlv⟩, hb3⟩
  obtain ⟨g0, c0, rfl, hg0⟩ := hov.formB (by rw [hlv.len]; omega)
  rw [hlv.len] at hov ⊢
  have HOV := Lib.hid hov
  have HLV := Lib.hid hlv
  have HG0 := Lib.hid hg0
  have HB3 := Lib.hid hb3
  have HE3 := Lib.hid (HE.out.below hb3)
  clear hov hlv hb3 hg0
  have hsub : ((h + 1 : Nat) : Int) - 1 = (h : Int) := by omega
  go_wp2_with (at_make; refine wpList_make_full _ rfl _ _ 90 rfl w3.heap.size 61 i0 _ 16 Tryd.underlying90 HIF.out HZ0.out HZ1.out .i64 .i64 _ _ h rfl rfl rfl rfl (by rw [HZ2.out]; omega) (by unfold maxLen; omega) (Nat.le_refl _) ?_)
  intro w4 ho4 hg4
  have hb4 : Below w3.heap.size w3 w4 := (Below.refl w3.heap.size w3).grown hg4 (Nat.le_refl _) (by intro g hg; cases hg)
  have HO4 := Lib.hid (show OwnE w3.heap.size 61 (.slice (some ⟨w3.heap.size, 0, none⟩) h h) (partR L i h 0) w4 by rw [partR_zero]; exact OwnE.made ho4)
  have HB4 := Lib.hid hb4
  obtain ⟨g, hg⟩ : ∃ g, g = w3.heap.size := ⟨_, rfl⟩
  rw [← hg] at HO4 ⊢
  have HGE := Lib.hid hg
  clear ho4 hg4 hb4 hg
  go_wp2_with fail
  go_loopw [32] (fun n wq => ∃ k : Nat, k ≤ h ∧ n = .int .i64 k ∧ OwnE g 61 (.slice (some ⟨g, 0, none⟩) h h) (partR L i h k) wq ∧ Below w3.heap.size w3 wq) (fun n _ => h - (intOf n).toNat)
  case atStart => exact ⟨0, by omega, rfl, HO4.out, HB4.out⟩
  case round =>
    clear HO4 HB4
    obtain ⟨k, hk, rfl, hok, hbk⟩ := hrel
    have HOK := Lib.hid hok
    have HBK := Lib.hid hbk
    by_cases hlk : k < h
    · have hlk2 : (k : Int) < (h : Int) := by omega
      obtain ⟨aj, cj, hsj, hej⟩ := HLV.out.get HE3.out LE.out rfl HN.out (Nat.le_refl _) (Nat.le_of_lt hlk)
      have hs := HSI.out k hlk
      have hsx := bits_xor_one (HQ.out k)
      rw [show ((i / 2 ^ k : Nat) : Int) = (i : Int) / 2 ^ k by simp] at hsx
      have hat := lvl_get L hs
      have HPS := Shut.mk (partR_set L i (m := h) hlk)
      obtain ⟨hx1, hx2⟩ := atN_ok LE.out k (sibN (i / 2 ^ k)) (by rw [HN.out]; exact Nat.lt_of_lt_of_le (Nat.mul_lt_mul_of_pos_right hs (Nat.two_pow_pos k)) (by rw [HN.out]; exact Nat.div_mul_le_self _ _))
      obtain ⟨b, o, rfl, hbb⟩ := hej.some (by rw [lvl_len]; omega)
      have hx := hej.get (i := sibN (i / 2 ^ k)) (by rw [lvl_len]; exact hs)
      rw [hat] at hx
      have HX := Lib.hid (rangeAt_below hx hbk hbb)
      have hc := (HOV.out.below hbk).get HLV.out.len.symm hsj
      have HPE := Lib.hid (show Elems (partR L i h k) from (pathN_ok LE.out HN.out hi (Nat.le_of_lt hlk)).append (Elems.zeros _))
      have HPL := Lib.hid (partR_len L i (Nat.le_of_lt hlk))
      obtain ⟨s, hse⟩ : ∃ s, sibN (i / 2 ^ k) = s := ⟨_, rfl⟩
      obtain ⟨x, hxe⟩ : ∃ x, atN L k s = x := ⟨_, rfl⟩
      obtain ⟨m, hm⟩ : ∃ m, L.length / 2 ^ k = m := ⟨_, rfl⟩
      rw [hse] at hs hsx HPS HX hx1 hx2
      rw [hxe] at HPS HX hx1 hx2
      rw [hm] at hs hc
      have HX1 := Lib.hid hx1
      have HX2 := Lib.hid hx2
      clear hsj hej hat hx hbb hse hxe hm hx1 hx2 hok hbk
      have hs2 : (s : Int) < (m : Int) := by omega
      have HI := Lib.hid (show (Tryd.prog.info? 61).map (·.size) = some x.length by rw [HX1.out]; exact Tryd.infoE)
      have HGK := Lib.hid (show w3.heap.size ≤ g by rw [HGE.out]; exact Nat.le_refl _)
      go_wp2_with (first
        | (refine wpList_load_elem rfl 61 _ rfl b (o + s * 16) x _ rfl HX.out Tryd.underlying61 rfl HI.out ?_)
        | (refine wpList_store_elem rfl 61 _ _ rfl rfl g g h h k (k * 16) 61 (partR L i h k) x HPL.out.symm (Nat.mul_comm _ _) rfl rfl HOK.out HPE.out hlk HX1.out HX2.out Tryd.infoE ?_))
      intro w5 ho5 hb5
      have HO5 := Lib.hid (show OwnE g 61 (.slice (some ⟨g, 0, none⟩) h h) (partR L i h (k + 1)) w5 by rw [← HPS.out]; exact ho5.out)
      have HB5 := Lib.hid (show Below w3.heap.size w3 w5 from But.toBelow HBK.out hb5.out HGK.out HBK.out.size)
      clear ho5 hb5 HOK HBK HPS HPE HPL hc hsx
      go_wp2_with fail
      exact ⟨⟨k + 1, by omega, by go_num, HO5.out, HB5.out⟩, by simp [intOf]; omega⟩
    · obtain rfl : k = h := by omega
      rw [partR_full] at HOK
      have hnw : ¬ (k : Int) < (k : Int) := by omega
      have HOR := Lib.hid (HOK.out.mono (show w2.heap.size ≤ g by rw [HGE.out]; exact HB3.out.size))
      have HBR := Lib.hid (HB3.out.trans (hbk.mono HB3.out.size))
      clear hok hbk HOK HBK
      go_wp2_with fail
      go_ret2
      exact ⟨⟨_, rfl, HOR.out⟩, HBR.out⟩
end Go.Proofs.YtpfhlhcnmeodbaaDoor
namespace Go.Proofs.YtpfhlhcnmeodbaaDoor
open Go.RowKit Go.BigFrame
set_option maxHeartbeats 4000000 in
set_option maxRecDepth 100000 in
theorem dev_sign (seed : List UInt8) (i : Int) (d : List Nat) (w : World) (hs : seed.length ≤ 4000) (hi0 : -9223372036854775808 ≤ i) (hi : i ≤ 9223372036854775807) (hd : d.length = 16) (ld : ∀ y ∈ d, y < 256) (hk : KAt w) :
    Calls Tryd.prog 54 #[.string ⟨seed.toArray⟩, .int .i64 i, .agg (nums .u8 d).toArray] w fun e w' => e = .returned (.string ⟨(signN seed i d).toArray⟩) ∧ Below w.heap.size w w' := by
  have HS := Lib.hid hs
  have HK := Lib.hid hk
  have HD := Lib.hid hd
  have LD := Lib.hid ld
  have HI0 := Lib.hid hi0
  have HI1 := Lib.hid hi
  clear hs hk hi0 hi hd ld
  go_enter Tryd.func54, Tryd.ntmps54
  go_upto_region 1 with (fail)
  obtain ⟨w1, hw1⟩ : ∃ x', x' = w.alloc (.cells (nums .u8 d).toArray 61) := ⟨_, rfl⟩
  rw [← hw1]
  have hb1 : Below w.heap.size w w1 := by rw [hw1]; exact (Below.refl _ _).alloc (Nat.le_refl _) _
  have HD1 := Lib.hid (show Blk w.heap.size 61 .u8 d w1 by rw [hw1]; exact heap_alloc_new w _)
  have HB1 := Lib.hid hb1
  have HK1 := Lib.hid (HK.out.below hb1)
  have HI := Lib.hid (show (Tryd.prog.info? 61).map (·.size) = some d.length by rw [HD.out]; exact Tryd.infoE)
  clear hb1 hw1 HK
  go_wp2_with (refine wpList_load_nums rfl 61 _ rfl w.heap.size .u8 _ 61 _ rfl HD1.out Tryd.underlying61 rfl HI.out ?_)
  refine (dev_digits d _ HD.out LD.out).mono ?_
  rintro e w2 ⟨rfl, hb2⟩
  have HB2 := Lib.hid (HB1.out.trans (hb2.mono HB1.out.size))
  have HK2 := Lib.hid (HK1.out.below hb2)
  clear hb2 HB1 HK1 HD1
  go_wp2_with fail
  refine (dev_reach seed i (digN d) _ HS.out HI0.out HI1.out (digN_len HD.out) (digN_lt HD.out LD.out) HK2.out).mono ?_
  rintro e w3 ⟨rfl, hb3⟩
  rw [show rowE (toF seed i (digN d)) 35 = signN seed i d from rfl]
  have HB3 := Lib.hid (HB2.out.trans (hb3.mono HB2.out.size))
  clear hb3
  go_wp2_with fail
  go_ret
  exact ⟨rfl, HB3.out⟩
end Go.Proofs.YtpfhlhcnmeodbaaDoor
namespace Go.Proofs.YtpfhlhcnmeodbaaDoor
open Go.RowKit Go.BigFrame
theorem keys_seed {g : Nat} {t : TypeId} {seed : List UInt8} {ao : Option Addr} {n cap : Nat} {root : List Nat} {h : Int} {w : World} (hc : Cells g t (keysV seed ao n cap root h) w) : w.cell? ⟨g, 0, none⟩ = some (.string ⟨seed.toArray⟩) := by
  rw [Lib.cell_of_heap hc]; rfl
theorem keys_node {g : Nat} {t : TypeId} {seed : List UInt8} {ao : Option Addr} {n cap : Nat} {root : List Nat} {h : Int} {w : World} (hc : Cells g t (keysV seed ao n cap root h) w) : w.rangeAt g 2 (nodeV root h).toList := by
  intro j v hj
  rw [Lib.cell_of_heap hc, keysV, List.getElem?_toArray, Nat.add_comm 2 j, List.getElem?_cons_succ, List.getElem?_cons_succ]
  exact hj
theorem keys_root {g : Nat} {t : TypeId} {seed : List UInt8} {ao : Option Addr} {n cap : Nat} {root : List Nat} {h : Int} {w : World} (hc : Cells g t (keysV seed ao n cap root h) w) : w.rangeAt g 2 (nums .u8 root) := by
  intro j v hj
  refine keys_node hc j v ?_
  rw [nodeV, List.getElem?_append_left (List.getElem?_eq_some_iff.1 hj).1]
  exact hj
end Go.Proofs.YtpfhlhcnmeodbaaDoor
namespace Go.Proofs.YtpfhlhcnmeodbaaDoor
open Go.RowKit Go.BigFrame
theorem conv_ownT {B g c : Nat} {l : List Nat} {w : World} (hlt : ∀ x ∈ l, x < 256) (h : OwnT B 5 .u8 (.slice (some ⟨g, 0, none⟩) l.length c) l w) :
    (convert 73 9 (.slice (some ⟨g, 0, none⟩) l.length c)).run Tryd.prog w = .ok (.string ⟨(txt l).toArray⟩) w := by
  have hlen : l.length = (txt l).length := (txt_len _).symm
  rw [hlen]
  refine run_convert_bytes_back _ _ _ 5 ⟨g, 0, none⟩ _ (txt l) Tryd.underlying73 Tryd.underlying5 Tryd.underlying9 ?_
  intro j hj
  rw [txt_len] at hj
  rw [Addr.add_lit, Nat.zero_add, h.cells rfl j hj]
  have h1 := hlt _ (List.getElem_mem hj)
  simp only [txt, List.getElem_map]
  rw [show (UInt8.ofNat l[j]).toNat = l[j] by simp; omega]
end Go.Proofs.YtpfhlhcnmeodbaaDoor
namespace Go.Proofs.YtpfhlhcnmeodbaaDoor
open Go.RowKit Go.BigFrame
theorem Tryd.infoNode6 : (Tryd.prog.info? 63).map (·.size) = some 17 := by kernel_rfl
theorem nodeV_size (r : List Nat) (h : Int) (hr : r.length = 16) : (nodeV r h).size = 17 := by rw [nodeV, List.size_toArray, List.length_append, nums_len, hr]; rfl
theorem nodeV_one (r : List Nat) (h : Int) : (nodeV r h).all (·.oneCell') = true := by
  rw [nodeV]
  refine all_oneCell_toArray fun v hv => ?_
  rcases List.mem_append.1 hv with hv | hv
  · exact nums_one _ _ v hv
  · obtain rfl := List.mem_singleton.1 hv
    rfl
set_option maxHeartbeats 1000000 in
set_option maxRecDepth 100000 in
theorem dev_node (v : Value) (seed : List UInt8) (h : Nat) (w : World) (k : KeysIs v seed h w) :
    Calls Tryd.prog 27 #[v] w fun e w' => e = .returned (.agg (nodeV (rootK seed h) h)) ∧ Below w.heap.size w w' := by
  obtain ⟨g, ao, cap, rfl, hc, he⟩ := k.lie
  have hr := (rootK_ok seed h).1
  generalize rootK seed h = R at *
  have h0 : Below w.heap.size w (w.alloc (.cells (nodeV (List.replicate 16 0) 0) 63)) := (Below.refl _ _).alloc (Nat.le_refl _) _
  have HX := Lib.hid (show Cells w.heap.size 63 (nodeV (List.replicate 16 0) 0) (w.alloc (.cells (nodeV (List.replicate 16 0) 0) 63)) from heap_alloc_new w _)
  have HR := Lib.hid (keys_node (hc.below h0))
  have hs := nodeV_size R (h : Int) hr
  have HIL := Lib.hid (show (Tryd.prog.info? 63).map (·.size) = some (nodeV R h).toList.length by rw [Array.length_toList, hs]; exact Tryd.infoNode6)
  have HIN := Lib.hid (show (Tryd.prog.info? 63).map (·.size) = some (nodeV R h).size by rw [hs]; exact Tryd.infoNode6)
  have HON := Lib.hid (nodeV_one R h)
  have HLN := Lib.hid (show (nodeV (List.replicate 16 0) 0).size = (nodeV R h).size by rw [hs]; rfl)
  have HV := Shut.mk (show (nodeV R h).toList.toArray = nodeV R h from rfl)
  clear hc he k h0 hs hr
  obtain ⟨V, hV⟩ : ∃ V, nodeV R (h : Int) = V := ⟨_, rfl⟩
  rw [hV] at HR HIL HIN HON HLN HV ⊢
  clear hV
  go_enter Tryd.func27, Tryd.ntmps27
  go_wp2_with (first
    | (refine wpList_load_mid rfl 63 _ rfl g 2 rfl V.toList _ HR.out Tryd.underlying63 rfl HIL.out ?_)
    | (refine wpList_store_cells rfl 63 _ _ rfl rfl w.heap.size _ V 63 rfl rfl HX.out HIN.out HLN.out HON.out ?_))
  intro w2 hc2 hb2
  have HC := Lib.hid hc2.out
  have HB := Lib.hid (But.toBelow ((Below.refl w.heap.size w).alloc (Nat.le_refl _) (.cells (nodeV (List.replicate 16 0) 0) 63)) hb2.out (Nat.le_refl _) (by simp))
  clear hc2 hb2
  go_wp2_with fail
  exact bodyPost_ret (results_cell_row rfl _ _ w.heap.size 63 _ (0, 0) _ rfl HC.out Tryd.underlying63 rfl HIN.out) rfl ⟨rfl, HB.out⟩
set_option maxHeartbeats 1000000 in
set_option maxRecDepth 100000 in
theorem dev_sign_spent (v : Value) (seed : List UInt8) (h : Nat) (i : Int) (t : List UInt8) (w : World) (k : KeysIs v seed h w) (hi : i < 0 ∨ ((2 ^ h : Nat) : Int) ≤ i) :
    Calls Tryd.prog 26 #[v, .int .i64 i, .string ⟨t.toArray⟩] w fun e w' => e = .returned (.tuple #[.string ⟨#[]⟩, .int .i64 8]) ∧ Below w.heap.size w w' := by
  obtain ⟨g, ao, cap, rfl, hc, he⟩ := k.lie
  have c1 := keys_leaves hc
  have hN := two_le k.high
  generalize 2 ^ h = N at *
  have HP := Lib.hid (fun w => dev_path_not N i ao cap w (by omega) (.inr hi))
  clear hc he k hi
  go_enter Tryd.func26, Tryd.ntmps26
  go_wp2_with fail
  refine (HP.out w).mono ?_
  rintro e w2 ⟨rfl, hb⟩
  have HB := Lib.hid hb
  clear hb
  go_wp2_with fail
  go_ret2
  exact ⟨rfl, HB.out⟩
end Go.Proofs.YtpfhlhcnmeodbaaDoor
namespace Go.Proofs.YtpfhlhcnmeodbaaDoor
open Go.RowKit Go.BigFrame
theorem wpList_bin_want {P : Program} {ops : Array Oper} {rest : List Oper} {o : Oper} {a : Act} {w : World} {Q : Exit → Act → World → Prop} (hw : Region.wanted o (yielded ops a.tmps) = true) (op : BinOp) (t u : TypeId) (x y : Operand) (ho : o.op = .binOp op t x y u) (vx vy r : Value) (hx : a.eval x = vx) (hy : a.eval y = vy)
    (hg : ∀ w, (eqGuard op t x y vx vy).run P w = .ok () w) (hr : ∀ w, (binOp op t vx vy).run P w = .ok r w) (hk : wpList P ops Q rest (a.put o.dst r) w) : wpList P ops Q (o :: rest) a w :=
  BigFrame.wpList_want hw fun _ hK => (show OpWp P { o with guard := none } a w _ _ from op_bin (o := { o with guard := none }) op t u x y ho vx vy r hx hy hg hr (hK _ _ hk)).out
end Go.Proofs.YtpfhlhcnmeodbaaDoor
namespace Go.Proofs.YtpfhlhcnmeodbaaDoor
open Go.RowKit Go.BigFrame
def sigL (S : List UInt8) (P : List (List Nat)) (k : Nat) : List Nat := byteNs S ++ (P.take k).flatten
theorem sigL_zero (S : List UInt8) (P : List (List Nat)) : sigL S P 0 = byteNs S := by simp [sigL]
theorem sigL_next (S : List UInt8) {P : List (List Nat)} {k : Nat} (h : k < P.length) : sigL S P (k + 1) = sigL S P k ++ P.getD k [] := by
  rw [sigL, sigL, take_next h, List.flatten_append, List.append_assoc]
  simp
theorem flatten_len {P : List (List Nat)} (h : Elems P) : P.flatten.length = 16 * P.length := by
  induction P with
  | nil => rfl
  | cons x P ih =>
    have h1 := (h x (by simp)).1
    have h2 := ih fun y hy => h y (by simp [hy])
    rw [List.flatten_cons, List.length_append, List.length_cons]
    omega
theorem sigL_len (S : List UInt8) {P : List (List Nat)} (hP : Elems P) {k : Nat} (h : k ≤ P.length) : (sigL S P k).length = S.length + 16 * k := by
  rw [sigL, List.length_append, byteNs_len, flatten_len (hP.take k), take_len h]
theorem sigL_lt (S : List UInt8) {P : List (List Nat)} (hP : Elems P) (k : Nat) : ∀ y ∈ sigL S P k, y < 256 := by
  intro y hy
  rw [sigL, List.mem_append] at hy
  rcases hy with hy | hy
  · exact byteNs_lt S y hy
  · obtain ⟨x, hx, hy⟩ := List.mem_flatten.1 hy
    exact ((hP.take k) x hx).2 y hy
theorem txt_flatten (P : List (List Nat)) : txt P.flatten = flatT P := by
  induction P with
  | nil => rfl
  | cons x P ih => rw [List.flatten_cons, txt_append, ih]; simp [flatT]
theorem sigL_full (S : List UInt8) (P : List (List Nat)) : txt (sigL S P P.length) = S ++ flatT P := by
  rw [sigL, List.take_length, txt_append, txt_byteNs, txt_flatten]
set_option maxHeartbeats 4000000 in
set_option maxRecDepth 100000 in
theorem dev_sign6 (v : Value) (seed : List UInt8) (h i : Nat) (t : List UInt8) (w : World) (k : KeysIs v seed h w) (hi : i < 2 ^ h) (ht : t.length ≤ 1000000) (hk : KAt w) :
    Calls Tryd.prog 26 #[v, .int .i64 i, .string ⟨t.toArray⟩] w fun e w' => e = .returned (.tuple #[.string ⟨(signK seed h i t).toArray⟩, .int .i64 0]) ∧ Below w.heap.size w w' := by
  obtain ⟨g, ao, cap, rfl, hc, he⟩ := k.lie
  have hN8 := two_le k.high
  have c1 := keys_leaves hc
  have HC := Lib.hid hc
  have HE := Lib.hid he
  have HK := Lib.hid hk
  have HPA := Lib.hid (fun w hE hk => dev_path (leavesN seed (2 ^ h)) h i ao cap w (leavesN_ok _ _) hE (by rw [leavesN_len]; exact goodN_two k.high) (leavesN_len _ _) k.high (by rw [leavesN_len]; exact hi) hk)
  rw [leavesN_len] at HPA
  have HRO := Lib.hid (rootK_ok seed h)
  have HPO := Lib.hid (pathK_ok seed hi)
  have HPL := Shut.mk (pathN_len (leavesN seed (2 ^ h)) i h)
  have HSS := Shut.mk (show signN seed i (digK (rootK seed h) i t) ++ flatT (pathN (leavesN seed (2 ^ h)) i h) = signK seed h i t from rfl)
  have hs4 : seed.length ≤ 4000 := Nat.le_trans k.short (by decide)
  have h8 := k.high
  have HDG := Lib.hid (fun w hk => dev_digest6 (rootK seed h) i t w (rootK_ok seed h).1 (rootK_ok seed h).2 (by omega) (by omega) ht hk)
  have HSG := Lib.hid (fun w hk => dev_sign seed i (digK (rootK seed h) i t) w hs4 (by omega) (by omega) (digK_len _ _ _) (digK_lt _ _ _) hk)
  have HSL := Shut.mk (signN_len seed i (digK (rootK seed h) i t))
  have HDL := Lib.hid (digK_len (rootK seed h) i t)
  obtain ⟨SG, hSG⟩ : ∃ SG, signN seed i (digK (rootK seed h) i t) = SG := ⟨_, rfl⟩
  rw [hSG] at HSS HSG HSL
  obtain ⟨D, hD⟩ : ∃ D, digK (rootK seed h) i t = D := ⟨_, rfl⟩
  rw [hD] at HDG HSG HDL
  obtain ⟨R, hR⟩ : ∃ R, rootK seed h = R := ⟨_, rfl⟩
  rw [hR] at HC HRO HDG
  obtain ⟨P, hP⟩ : ∃ P, pathN (leavesN seed (2 ^ h)) i h = P := ⟨_, rfl⟩
  rw [hP] at HPA HPO HPL HSS
  obtain ⟨L, hL⟩ : ∃ L, leavesN seed (2 ^ h) = L := ⟨_, rfl⟩
  rw [hL] at HE HPA
  obtain ⟨ST, hST⟩ : ∃ ST, signK seed h i t = ST := ⟨_, rfl⟩
  rw [hST] at HSS ⊢
  obtain ⟨N, hN⟩ : ∃ N, 2 ^ h = N := ⟨_, rfl⟩
  rw [hN] at HC HPA c1 hN8
  have HIR := Lib.hid (show (Tryd.prog.info? 61).map (·.size) = some R.length by rw [HRO.out.1]; exact Tryd.infoE)
  have HGL := Lib.hid HC.out.lt
  clear hc he hk hi k hSG hD hR hP hL hST hN hs4
  go_enter Tryd.func26, Tryd.ntmps26
  go_wp2_with fail
  refine (HPA.out w HE.out HK.out).mono ?_
  rintro e w3 ⟨⟨pv, rfl, hop⟩, hb3⟩
  obtain ⟨ap, cp, rfl⟩ := hop.form
  rw [HPL.out] at hop ⊢
  have HEP := Lib.hid (hop.at HPO.out)
  have HK3 := Lib.hid (HK.out.below hb3)
  have HC3 := Lib.hid (HC.out.below hb3)
  have HG3 := Lib.hid (show g < w3.heap.size from HC3.out.lt)
  have HB3 := Lib.hid hb3
  clear hop hb3 HK HC HE HPA c1
  go_upto_region 6 with (fail)
  refine wp_region_class_tail (fun w' => SS w3 w') 14 (by kernel_rfl) (by kernel_rfl) (SS.start HK3.out) ?_
  simp only [List.take_succ_cons, List.take_zero, List.drop_succ_cons, List.drop_zero]
  repeat (first
    | (go_big_quiet_want; refine quiet_load_cell 9 _ rfl ⟨g, 0, none⟩ (.string ⟨seed.toArray⟩) rfl (fun w' h => keys_seed (HC3.out.below h.1)) Tryd.isAgg9 ?_; go_big_quiet_on; simp only [Act.put, List.setIfInBounds_toArray, List.set_cons_zero, List.set_cons_succ])
    | (go_big_quiet_want; refine quiet_load_elem 61 _ rfl g 2 R _ rfl (fun w' h => keys_root (HC3.out.below h.1)) Tryd.underlying61 rfl HIR.out ?_; go_big_quiet_on; simp only [Act.put, List.setIfInBounds_toArray, List.set_cons_zero, List.set_cons_succ])
    | go_big_quiet_step ((intro hs'; first
        | rfl
        | (go_at_call 55; exact (HDG.out _ hs'.2).mono fun e w' h => ⟨h.1, hs'.next h.2⟩)
        | (go_at_call 54; exact (HSG.out _ hs'.2).mono fun e w' h => ⟨h.1, hs'.next h.2⟩))))
  refine wpQuiet_nil ?_
  intro w4 hs4
  have HEP4 := Lib.hid (HEP.out.below hs4.1)
  have HB4 := Lib.hid (HB3.out.trans (hs4.1.mono HB3.out.size))
  clear hs4 HEP HB3 HC3 HK3 HDG HSG
  obtain ⟨gb, cb, w5, hconv, ho5, hb5⟩ := conv_bytes SG w4 (by rw [HSL.out]; decide)
  have HO5 := Lib.hid (show OwnT w4.heap.size 5 .u8 (.slice (some ⟨gb, 0, none⟩) SG.length cb) (sigL SG P 0) w5 by rw [sigL_zero]; exact ho5)
  have HW5 := Lib.hid hb5
  clear ho5 hb5
  go_wp2_with fail
  clear hconv
  go_loopw [10, 43] (fun v n wq => ∃ k : Nat, k ≤ h ∧ n = .int .i64 k ∧ OwnT w4.heap.size 5 .u8 v (sigL SG P k) wq ∧ Below w4.heap.size w4 wq) (fun _ n _ => h - (intOf n).toNat)
  case atStart => exact ⟨0, by omega, rfl, HO5.out, HW5.out⟩
  case round =>
    clear HO5 HW5
    obtain ⟨k, hk, rfl, ho, hb⟩ := hrel
    obtain ⟨gv, cv, rfl⟩ := ho.form
    have HO := Lib.hid ho
    have HB := Lib.hid hb
    clear ho hb
    by_cases hlk : k < h
    · have hlk2 : (k : Int) < (h : Int) := by omega
      have hl : k < P.length := by rw [HPL.out]; exact hlk
      obtain ⟨b, o, rfl, hbb⟩ := HEP4.out.some (by omega)
      obtain ⟨hx1, hx2⟩ := HPO.out.getD hl
      have HX := Lib.hid (rangeAt_below (HEP4.out.get hl) HB.out hbb)
      have HNX := Shut.mk (sigL_next SG hl)
      have HSN := Shut.mk (sigL_len SG HPO.out (Nat.le_of_lt hl))
      obtain ⟨x, hx⟩ : ∃ x, P.getD k [] = x := ⟨_, rfl⟩
      rw [hx] at hx1 HX HNX
      obtain ⟨S0, hS0⟩ : ∃ S0, sigL SG P k = S0 := ⟨_, rfl⟩
      rw [hS0] at HNX HSN HO ⊢
      have HX1 := Lib.hid hx1
      have HIX := Lib.hid (show (Tryd.prog.info? 61).map (·.size) = some x.length by rw [hx1]; exact Tryd.infoE)
      have HLX := Lib.hid (show (List.replicate 16 0).length = x.length by rw [hx1]; rfl)
      have HW := Lib.hid (show w4.heap.size ≤ wr.heap.size from HB.out.size)
      clear hl hbb hx hx1 hx2 hS0
      go_wp2_with (first
        | (refine wpList_load_elem rfl 61 _ rfl b (o + k * 16) x _ rfl HX.out Tryd.underlying61 rfl HIX.out ?_)
        | (refine wpList_store_nums rfl 61 _ _ rfl rfl wr.heap.size .u8 (List.replicate 16 0) x 61 rfl rfl (heap_alloc_new wr _) HIX.out HLX.out ?_))
      intro w6 hc6 hb6
      have ha6 : Below wr.heap.size wr (wr.alloc (.cells (nums .u8 (List.replicate 16 0)).toArray 61)) := (Below.refl _ _).alloc (Nat.le_refl _) _
      have hb66 : Below wr.heap.size wr w6 := But.toBelow ha6 hb6.out (Nat.le_refl _) ha6.size
      have HN6 := Lib.hid (blk_news (show Blk wr.heap.size 61 .u8 x w6 from hc6.out))
      have HO6 := Lib.hid (HO.out.below hb66)
      have HB6 := Lib.hid (HB.out.trans (hb66.mono HB.out.size))
      have HLA := Lib.hid (show S0.length + x.length ≤ maxLen by rw [HSN.out, HSL.out, HX1.out]; unfold maxLen; omega)
      have HLB := Lib.hid (show (S0.length + x.length) * 1 ≤ 140737488355328 by rw [HSN.out, HSL.out, HX1.out]; omega)
      clear hc6 hb6 ha6 hb66 HO HB HX HIX HLX
      go_wp2_with (at_builtin; refine wpList_append_tails rfl (.tmp 47) (.tmp 48) 73 5 rfl w4.heap.size .u8 1 Tryd.underlying73 Tryd.infoByte4 _ S0 x ⟨wr.heap.size, 0, none⟩ 16 16 HX1.out.symm rfl HO6.out rfl HN6.out HLA.out HLB.out HB6.out.size ?_)
      intro v8 w8 ho8 hb8
      have HB8 := Lib.hid (show Below w4.heap.size w4 w8 from HB6.out.trans hb8.out)
      clear hb8 HLA HLB
      go_wp2_with fail
      exact ⟨⟨k + 1, by omega, by go_num, by rw [HNX.out]; exact ho8.out, HB8.out⟩, by simp [intOf]; omega⟩
    · obtain rfl : k = h := by omega
      have hnw : ¬ (k : Int) < (k : Int) := by omega
      have hcv := conv_ownT (sigL_lt SG HPO.out k) HO.out
      have HFU := sigL_full SG P
      rw [HPL.out, HSS.out] at HFU
      rw [HFU] at hcv
      have HB9 := Lib.hid (HB4.out.trans (HB.out.mono HB4.out.size))
      clear HFU HO HB
      go_wp2_with fail
      go_ret2
      exact ⟨rfl, HB9.out⟩
end Go.Proofs.YtpfhlhcnmeodbaaDoor
namespace Go.Proofs.YtpfhlhcnmeodbaaDoor
open Go.RowKit Go.ChangeShapes Go.WideShapes Go.Deep
set_option maxRecDepth 100000 in
theorem open_pair {H : Type} {enc : TypeId × Value → H} {W : World} {v : Value} {d : DataW H} {p : List MemPlace} {base : Nat} (hv : Value.okWide Tryd.prog W .any base 53 v)
    (h : DataW.Trod enc Tryd.prog W 0 (fun _ => true) true 53 v d p) :
    ∃ x y : Int, v = .agg #[.int .i64 x, .int .i64 y] ∧ (-9223372036854775808 ≤ x ∧ x ≤ 9223372036854775807) ∧ -9223372036854775808 ≤ y ∧ y ≤ 9223372036854775807 := by
  simp only [Value.okWide, Tryd.underlying53] at hv
  obtain ⟨cs, rfl, _, _⟩ := hv
  obtain ⟨fuel, hf⟩ := h
  obtain ⟨xs, m, _, hx, hcl, hxl, hat⟩ := DataW.trod_array Tryd.underlying53 hf
  have hci : Tryd.prog.cellsOf 3 = 1 := by kernel_rfl
  have hce : Tryd.prog.cellsOf 53 = 2 := by kernel_rfl
  rw [hce] at hcl
  obtain ⟨l⟩ := cs
  simp only [Value.cells] at hcl hat
  match l, hcl, xs, hxl with
  | [u0, u1], _, [x0, x1], _ =>
  have t0 : DataW.trod enc Tryd.prog W 0 (fun _ => true) true m 3 (([u0, u1].drop (0 * Tryd.prog.cellsOf 3)).take (Tryd.prog.cellsOf 3)) = some x0 := hat 0 (by decide)
  have t1 : DataW.trod enc Tryd.prog W 0 (fun _ => true) true m 3 (([u0, u1].drop (1 * Tryd.prog.cellsOf 3)).take (Tryd.prog.cellsOf 3)) = some x1 := hat 1 (by decide)
  rw [hci] at t0 t1
  obtain ⟨k, e0, _, w0⟩ := DataW.trod_int Tryd.underlying3 t0
  obtain ⟨a, e1, _, w1⟩ := DataW.trod_int Tryd.underlying3 t1
  simp only [Lit.wf, Bool.and_eq_true, decide_eq_true_eq] at w0 w1
  simp only [List.drop_succ_cons, List.drop_zero, List.take_succ_cons, List.take_zero, List.cons.injEq, and_true, Nat.zero_mul, Nat.one_mul] at e0 e1
  exact ⟨k, a, by rw [e0, e1], ⟨w0.1, w0.2⟩, w1.1, w1.2⟩
end Go.Proofs.YtpfhlhcnmeodbaaDoor
namespace Go.Proofs.YtpfhlhcnmeodbaaDoor.chainWords
open Go.RowKit Go.BigFrame Go.Proofs.YtpfhlhcnmeodbaaDoor
theorem eql_arr (a b : List Nat) (ha : IdOk a) (hb : IdOk b) (w : World) : (binOp .eql 22 (.agg (nums .u8 a).toArray) (.agg (nums .u8 b).toArray)).run Tryd.prog w = .ok (.bool (a == b)) w := by
  rw [run_eql_struct, equal_nums _ _ _ Tryd.underlying22 Tryd.underlying5 Tryd.sizeOf5 a b ha.1 hb.1 ha.2 hb.2]
  simp
theorem guard_arr (x y : Operand) (u v : Array Value) (w : World) : (eqGuard .eql 22 x y (.agg u) (.agg v)).run Tryd.prog w = .ok () w := run_eqGuard_agg w .eql 22 x y u v (by kernel_rfl)
theorem guard_pair (x y : Operand) (u v : Array Value) (w : World) : (eqGuard .eql 53 x y (.agg u) (.agg v)).run Tryd.prog w = .ok () w := run_eqGuard_agg w .eql 53 x y u v (by kernel_rfl)
theorem eql_pair (x y u v : Int) (w : World) : (binOp .eql 53 (.agg #[.int .i64 x, .int .i64 y]) (.agg #[.int .i64 u, .int .i64 v])).run Tryd.prog w = .ok (.bool ((x == u) && (y == v))) w := by
  obtain ⟨ii, hii⟩ := Option.isSome_iff_exists.1 (show (Tryd.prog.info? 3).isSome = true by kernel_rfl)
  have h := run_equalIn_array (w := w) 9999 (#[.int .i64 x, .int .i64 y] : Array Value) #[.int .i64 u, .int .i64 v] Tryd.underlying53 hii
  have hc : Tryd.prog.cellsOf 3 = 1 := by kernel_rfl
  rw [run_eql_struct]
  rw [show 10000 = 9999 + 1 from rfl, h, hc]
  have e0 := run_equalIn_int (P := Tryd.prog) w 9998 3 .i64 .i64 x u Tryd.underlying3
  have e1 := run_equalIn_int (P := Tryd.prog) w 9998 3 .i64 .i64 y v Tryd.underlying3
  have p0 : ∀ a b : Value, (Go.part 3 #[a, b] (0 * 1)).run Tryd.prog w = .ok a w := fun a b => part_cell (by kernel_rfl) rfl
  have p1 : ∀ a b : Value, (Go.part 3 #[a, b] 1).run Tryd.prog w = .ok b w := fun a b => part_cell (by kernel_rfl) rfl
  have hr : List.range 2 = [0, 1] := rfl
  rw [hr]
  rw [show 9998 + 1 = 9999 from rfl] at e0 e1
  simp only [Op.eqItems, Sem.run_bind, p0, e0, Result.andThen_ok]
  cases hx : (x == u) <;> cases hy : (y == v) <;> simp [p1, e1, hy]
theorem eql_text (a b : List UInt8) (w : World) : (binOp .eql 9 (.string ⟨a.toArray⟩) (.string ⟨b.toArray⟩)).run Tryd.prog w = .ok (.bool (a == b)) w := by
  go_simp
theorem index_pair0 (g : Nat) (w : World) : (Instr.indexAt 53 (.pointer (some ⟨g, 0, none⟩)) (.int .i64 0)).run Tryd.prog w = .ok (.pointer (some ⟨g, 0, none⟩)) w := by go_simp
theorem index_pair1 (g : Nat) (w : World) : (Instr.indexAt 53 (.pointer (some ⟨g, 0, none⟩)) (.int .i64 1)).run Tryd.prog w = .ok (.pointer (some ⟨g, 1, none⟩)) w := by go_simp
theorem run_build_two (t e : TypeId) (us vs : List Value) (z : Value) (bytes size : Nat) (ht : Tryd.prog.underlying t = some (.slice e)) (hinfo : (Tryd.prog.info? e).map (fun i => (i.zero, i.size, i.bytes)) = some (some z, size, bytes)) (hs : us.length = size) (hs2 : vs.length = size) (h0 : 0 < size) (hsm : size ≤ 100000) (w : World) :
    (Instr.buildSlice t 2 #[(0, .agg us.toArray), (1, .agg vs.toArray)]).run Tryd.prog w = .ok (.slice (some ⟨w.heap.size, 0, none⟩) 2 2) (w.alloc (.cells (us ++ vs).toArray e)) := by
  obtain ⟨i, hi, hz0, hz1, _⟩ := info_parts hinfo
  refine run_buildSlice (P := Tryd.prog) w t e 2 #[(0, .agg us.toArray), (1, .agg vs.toArray)] (us ++ vs).toArray i z ht hi hz0 (by rw [hz1]; omega) (by rw [hz1]; omega) ?_
  rw [hz1]
  have h1 := Great.fill_whole (s := size) h0 [Value.agg us.toArray, Value.agg vs.toArray] ((Array.range (2 * size)).map (z.cells[· % z.cells.size]!))
    (fun v hv => by
      rcases List.mem_cons.1 hv with rfl | hv
      · show us.toArray.size = size; rw [List.size_toArray, hs]
      · obtain rfl := List.mem_singleton.1 hv; show vs.toArray.size = size; rw [List.size_toArray, hs2]) (by simp)
  have e1 : (#[(0, Value.agg us.toArray), (1, Value.agg vs.toArray)] : Array (Nat × Value)).toList = ([Value.agg us.toArray, Value.agg vs.toArray].zipIdx 0).map fun x => (x.2, x.1) := by simp [List.zipIdx_cons]
  have e2 : ([Value.agg us.toArray, Value.agg vs.toArray].flatMap fun v => v.cells.toList).toArray = (us ++ vs).toArray := by
    simp [Value.cells]
  rw [e1, h1, e2]
theorem run_index4 (a b c d : Int) (j : Nat) (v : Int) (h : [a, b, c, d][j]? = some v) (w : World) : (Instr.index 54 (.agg #[.int .i64 a, .int .i64 b, .int .i64 c, .int .i64 d]) (.int .i64 (j : Int))).run Tryd.prog w = .ok (.int .i64 v) w := by
  match j, h with
  | 0, h => obtain rfl := Option.some.inj h; unfold Instr.index; go_simp
  | 1, h => obtain rfl := Option.some.inj h; unfold Instr.index; go_simp
  | 2, h => obtain rfl := Option.some.inj h; unfold Instr.index; go_simp
  | 3, h => obtain rfl := Option.some.inj h; unfold Instr.index; go_simp
  | n + 4, h => cases h
theorem wpList_index {P : Program} {ops : Array Oper} {rest : List Oper} {o : Oper} {a : Act} {w : World} {Q : Exit → Act → World → Prop} (hgd : o.guard = none) (t : TypeId) (x y : Operand) (ho : o.op = .index t x y) (vx vy r : Value) (hx : a.eval x = vx) (hy : a.eval y = vy)
    (hr : ∀ w, (Instr.index t vx vy).run P w = .ok r w) (h : wpList P ops Q rest (a.put o.dst r) w) : wpList P ops Q (o :: rest) a w := by
  refine wpList_plain hgd fun K hK => ?_
  unfold Oper.wp execOp
  simp only [ho, hx, hy, Sem.run_bind, hr w, Result.andThen_ok, Sem.run_pure]
  exact hK _ _ h
theorem dev_signs (kv : Value) (seed : List UInt8) (i : Int) (t : List UInt8) (ht : t.length ≤ 1000000) : ∃ SG : List UInt8, ∃ e : Int, SG.length ≤ 1000000 ∧ ∀ w, KeysIs kv seed 2 w → KAt w → Calls Tryd.prog 26 #[kv, .int .i64 i, .string ⟨t.toArray⟩] w fun r w' => r = .returned (.tuple #[.string ⟨SG.toArray⟩, .int .i64 e]) ∧ Below w.heap.size w w' := by
  by_cases h : 0 ≤ i ∧ i < 4
  · obtain ⟨j, rfl⟩ := Int.eq_ofNat_of_zero_le h.1
    refine ⟨signK seed 2 j t, 0, ?_, fun w k hk => dev_sign6 kv seed 2 j t w k (by omega) ht hk⟩
    rw [signK_len seed (show j < 2 ^ 2 by omega)]
    decide
  · exact ⟨[], 8, by decide, fun w k _ => dev_sign_spent kv seed 2 i t w k (by rw [show ((2 ^ 2 : Nat) : Int) = 4 from rfl]; omega)⟩
theorem sub_one (y : Int) (h0 : 0 ≤ y) (h1 : y ≤ 1099511627776) (w : World) : (binOp .sub 3 (.int .i64 y) (.int .i64 1)).run Tryd.prog w = .ok (.int .i64 (y - 1)) w := by
  have h4 : IntKind.i64.wrap (y - 1) = y - 1 := by
    simp [IntKind.wrap, IntKind.bits, IntKind.signed]
    omega
  go_simp
theorem build_nodes (r : List Nat) (h : Int) (hr : (⟨r, h⟩ : NodeN).Ok) (w : World) : (Instr.buildSlice 45 2 #[(0, .agg (nodL ⟨r, h⟩).toArray), (1, .agg (nodL ⟨r, h⟩).toArray)]).run Tryd.prog w = .ok (.slice (some ⟨w.heap.size, 0, none⟩) 2 2) (w.alloc (.cells (nodL ⟨r, h⟩ ++ nodL ⟨r, h⟩).toArray 63)) := by
  obtain ⟨z, b, hi⟩ : ∃ z b, (Tryd.prog.info? 63).map (fun i => (i.zero, i.size, i.bytes)) = some (some z, 17, b) := ⟨.agg (nodL ⟨List.replicate 16 0, 0⟩).toArray, 24, by kernel_rfl⟩
  exact run_build_two 45 63 _ _ z b 17 Tryd.underlying45 hi (nodL_len hr) (nodL_len hr) (by decide) (by decide) w
theorem wpList_build_two {P : Program} {w : World} {ops : Array Oper} {rest : List Oper} {o : Oper} {a : Act} {Q : Exit → Act → World → Prop} (hgd : o.guard = none) (t e : TypeId) (x y : Operand) (ho : o.op = .buildSlice t 2 #[(0, x), (1, y)]) (us vs : List Value) (hx : a.eval x = .agg us.toArray) (hy : a.eval y = .agg vs.toArray)
    (hr : ∀ w, (Instr.buildSlice t 2 #[(0, .agg us.toArray), (1, .agg vs.toArray)]).run P w = .ok (.slice (some ⟨w.heap.size, 0, none⟩) 2 2) (w.alloc (.cells (us ++ vs).toArray e)))
    (h : ∀ w', Hid (Cells w.heap.size e (us ++ vs).toArray w') → Hid (Below w.heap.size w w') → wpList P ops Q rest (a.put o.dst (.slice (some ⟨w.heap.size, 0, none⟩) 2 2)) w') : wpList P ops Q (o :: rest) a w := by
  refine wpList_plain hgd fun K hK => ?_
  have e1 : ((#[(0, x), (1, y)] : Array (Nat × Operand)).map fun (i, x) => (i, a.eval x)) = #[(0, .agg us.toArray), (1, .agg vs.toArray)] := by simp [hx, hy]
  unfold Oper.wp execOp
  simp only [ho, e1, Sem.run_bind, Sem.run_pure, hr, Result.andThen_ok]
  exact hK _ _ (h _ (Lib.hid (heap_alloc_new w _)) (Lib.hid ((Below.refl _ _).alloc (Nat.le_refl _) _)))
theorem nodes_two {r : List Nat} {h : Int} {g : Nat} {t : TypeId} {w : World} (hr : (⟨r, h⟩ : NodeN).Ok) (hc : Cells g t (nodL ⟨r, h⟩ ++ nodL ⟨r, h⟩).toArray w) : NodesAt (some ⟨g, 0, none⟩) [⟨r, h⟩, ⟨r, h⟩] w := by
  refine .inr ⟨g, 0, rfl, hc.lt, fun i c hi => ?_⟩
  have hl := nodL_len hr
  have hw := cells_range hc
  obtain ⟨h1, h2⟩ := rangeAt_app hw
  rw [hl] at h2
  match i, hi with
  | 0, hi =>
    obtain rfl : nodL ⟨r, h⟩ = c := by simpa using hi
    simpa using h1
  | 1, hi =>
    obtain rfl : nodL ⟨r, h⟩ = c := by simpa using hi
    simpa using h2
  | n + 2, hi => simp at hi
set_option maxHeartbeats 8000000 in
set_option maxRecDepth 100000 in
theorem walk (w : World) (hk : KAt w) (x0 y0 : Int) (b0 : -9223372036854775808 ≤ x0 ∧ x0 ≤ 9223372036854775807) (d0 : -9223372036854775808 ≤ y0 ∧ y0 ≤ 9223372036854775807) (h : List Nat) (hh : IdOk h) (x1 y1 : Int) (b1 : -9223372036854775808 ≤ x1 ∧ x1 ≤ 9223372036854775807) (d1 : -9223372036854775808 ≤ y1 ∧ y1 ≤ 9223372036854775807) (g : List Nat) (hg : IdOk g) :
    Calls Tryd.prog 7 #[.agg #[.int .i64 x0, .int .i64 y0], .agg (nums .u8 h).toArray, .agg #[.int .i64 x1, .int .i64 y1], .agg (nums .u8 g).toArray] w fun e w' => e = .returned (.bool true) ∧ Below w.heap.size w w' := by
  have HK := Lib.hid hk
  have HH := Lib.hid hh
  have HG := Lib.hid hg
  have HSH := Lib.hid (show (Tryd.prog.info? 22).map (·.size) = some h.length by rw [hh.1]; kernel_rfl)
  have HSG := Lib.hid (show (Tryd.prog.info? 22).map (·.size) = some g.length by rw [hg.1]; kernel_rfl)
  have HB0 := Lib.hid b0
  have HD0 := Lib.hid d0
  have HB1 := Lib.hid b1
  have HD1 := Lib.hid d1
  clear hk hh hg b0 d0 b1 d1
  go_enter Tryd.func7, Tryd.ntmps7
  go_upto_region 1 with (fail)
  obtain ⟨w1, hw1⟩ : ∃ x', x' = (((w.alloc (.cells #[.int .i64 x0, .int .i64 y0] 53)).alloc (.cells (nums .u8 h).toArray 22)).alloc (.cells #[.int .i64 x1, .int .i64 y1] 53)).alloc (.cells (nums .u8 g).toArray 22) := ⟨_, rfl⟩
  rw [← hw1]
  have HA1 := Lib.hid (show Cells w.heap.size 53 #[.int .i64 x0, .int .i64 y0] w1 by rw [hw1]; exact Cells.alloc (Cells.alloc (Cells.alloc (heap_alloc_new w _) _) _) _)
  have HH1 := Lib.hid (show Blk (w.heap.size + 1) 22 .u8 h w1 by
    rw [hw1]
    have q := heap_alloc_new (w.alloc (.cells #[.int .i64 x0, .int .i64 y0] 53)) (.cells (nums .u8 h).toArray 22)
    rw [World.size_alloc] at q
    exact (Cells.alloc (Cells.alloc q _) _))
  have HC1 := Lib.hid (show Cells (w.heap.size + 2) 53 #[.int .i64 x1, .int .i64 y1] w1 by
    rw [hw1]
    have q := heap_alloc_new ((w.alloc (.cells #[.int .i64 x0, .int .i64 y0] 53)).alloc (.cells (nums .u8 h).toArray 22)) (.cells #[.int .i64 x1, .int .i64 y1] 53)
    rw [World.size_alloc, World.size_alloc] at q
    exact (Cells.alloc q _))
  have HE1 := Lib.hid (show Blk (w.heap.size + 3) 22 .u8 g w1 by
    rw [hw1]
    have q := heap_alloc_new (((w.alloc (.cells #[.int .i64 x0, .int .i64 y0] 53)).alloc (.cells (nums .u8 h).toArray 22)).alloc (.cells #[.int .i64 x1, .int .i64 y1] 53)) (.cells (nums .u8 g).toArray 22)
    rw [World.size_alloc, World.size_alloc, World.size_alloc] at q
    exact q)
  have hb1 : Below w.heap.size w w1 := by
    rw [hw1]
    exact ((((Below.refl _ _).alloc (Nat.le_refl _) _).alloc (by simp only [World.size_alloc]; omega) _).alloc (by simp only [World.size_alloc]; omega) _).alloc (by simp only [World.size_alloc]; omega) _
  have HBB1 := Lib.hid hb1
  have HK1 := Lib.hid (HK.out.below hb1)
  obtain ⟨ga, hga⟩ : ∃ z, z = w.heap.size := ⟨_, rfl⟩
  obtain ⟨gh, hgh⟩ : ∃ z, z = w.heap.size + 1 := ⟨_, rfl⟩
  obtain ⟨gb, hgb⟩ : ∃ z, z = w.heap.size + 2 := ⟨_, rfl⟩
  obtain ⟨gg, hgg⟩ : ∃ z, z = w.heap.size + 3 := ⟨_, rfl⟩
  rw [show w.heap.size + 1 + 1 + 1 = w.heap.size + 3 from rfl, show w.heap.size + 1 + 1 = w.heap.size + 2 from rfl]
  rw [← hgg] at HE1 ⊢
  rw [← hgb] at HC1 ⊢
  rw [← hgh] at HH1 ⊢
  rw [← hga] at HA1 ⊢
  clear hb1 hw1 hga hgh hgb hgg
  go_wp2_with fail
  refine (alive16_any w1 HK1.out).mono ?_
  rintro e w2 ⟨rfl, hb2⟩
  have HA2 := Lib.hid (HA1.out.below hb2)
  have HH2 := Lib.hid (HH1.out.below hb2)
  have HC2 := Lib.hid (HC1.out.below hb2)
  have HE2 := Lib.hid (HE1.out.below hb2)
  have HB2 := Lib.hid (HBB1.out.trans (hb2.mono HBB1.out.size))
  clear hb2 HA1 HH1 HC1 HE1 HBB1 HK1
  have c0 : w2.cell? ⟨ga, 0, none⟩ = some (.int .i64 x0) := HA2.out.at 0
  have c1 : w2.cell? ⟨ga, 1, none⟩ = some (.int .i64 y0) := HA2.out.at 1
  have c2 : w2.cell? ⟨gb, 0, none⟩ = some (.int .i64 x1) := HC2.out.at 0
  have c3 : w2.cell? ⟨gb, 1, none⟩ = some (.int .i64 y1) := HC2.out.at 1
  go_wp2_with fail
  clear c0 c1 c2 c3
  go_loopw [29] (fun v wr => ∃ j : Nat, j ≤ 4 ∧ v = .int .i64 j ∧ (∀ u ∈ [x0, y0, x1, y1].take j, 0 ≤ u ∧ u ≤ 1099511627776) ∧ wr = w2) (fun v _ => 4 - (intOf v).toNat)
  case atStart => exact ⟨0, by decide, rfl, by simp, rfl⟩
  case round =>
    obtain ⟨j, hj, rfl, hall, hwr⟩ := hrel
    obtain rfl := hwr.symm
    have HALL := Lib.hid hall
    clear hall
    by_cases hj4 : j < 4
    · obtain ⟨v, hv⟩ : ∃ v, [x0, y0, x1, y1][j]? = some v := ⟨_, List.getElem?_eq_getElem (by simpa using hj4)⟩
      have HIX := Lib.hid (run_index4 x0 y0 x1 y1 j v hv)
      have HT := Shut.mk (show [x0, y0, x1, y1].take (j + 1) = [x0, y0, x1, y1].take j ++ [v] by rw [List.take_add_one, hv]; rfl)
      have BV : -9223372036854775808 ≤ v ∧ v ≤ 9223372036854775807 := by
        have := List.mem_of_getElem? hv
        simp only [List.mem_cons, List.not_mem_nil, or_false] at this
        rcases this with rfl | rfl | rfl | rfl
        · exact HB0.out
        · exact HD0.out
        · exact HB1.out
        · exact HD1.out
      clear hv
      by_cases v0 : v < 0
      · go_wp2_with (refine wpList_index rfl 54 _ _ rfl _ _ _ rfl rfl HIX.out ?_)
        go_ret
        exact ⟨rfl, HB2.out⟩
      · by_cases v1 : 1099511627776 < v
        · go_wp2_with (refine wpList_index rfl 54 _ _ rfl _ _ _ rfl rfl HIX.out ?_)
          go_ret
          exact ⟨rfl, HB2.out⟩
        · go_wp2_with (refine wpList_index rfl 54 _ _ rfl _ _ _ rfl rfl HIX.out ?_)
          refine ⟨⟨j + 1, by omega, by go_num, ?_, trivial⟩, by simp [intOf]; omega⟩
          rw [HT.out]
          intro u hu
          rcases List.mem_append.1 hu with hu | hu
          · exact HALL.out u hu
          · obtain rfl := List.mem_singleton.1 hu
            exact ⟨by omega, by omega⟩
    · obtain rfl : j = 4 := by omega
      have q0 := HALL.out x0 (by simp)
      have q1 := HALL.out y0 (by simp)
      have q2 := HALL.out x1 (by simp)
      have q3 := HALL.out y1 (by simp)
      have hst0 : (wordB x0 y0 h == wordB x1 y1 g) = decide (x0 = x1 ∧ y0 = y1 ∧ h = g) := by
        rw [Bool.eq_iff_iff]
        simp only [beq_iff_eq, decide_eq_true_eq]
        exact ⟨fun e => wordB_inj ⟨q0.1, by omega⟩ ⟨q2.1, by omega⟩ ⟨q1.1, by omega⟩ ⟨q3.1, by omega⟩ HH.out HG.out e, fun ⟨a, b, c⟩ => by rw [a, b, c]⟩
      have HW0 := Lib.hid (fun w' => dev_word16 x0 y0 h (by omega) (by omega) (by omega) (by omega) HH.out w')
      have HW1 := Lib.hid (fun w' => dev_word16 x1 y1 g (by omega) (by omega) (by omega) (by omega) HG.out w')
      have HSL := Lib.hid (show (wordB x0 y0 h).length ≤ 1000000 from Nat.le_trans (wordB_len (by omega) (by omega) HH.out) (by decide))
      obtain ⟨S, hS⟩ : ∃ S, wordB x0 y0 h = S := ⟨_, rfl⟩
      obtain ⟨T, hT⟩ : ∃ T, wordB x1 y1 g = T := ⟨_, rfl⟩
      rw [hS] at hst0 HW0 HSL
      rw [hT] at hst0 HW1
      have HA20 := Lib.hid (fun (w' : World) (q : Below w2.heap.size w2 w') => show w'.cell? ⟨ga, 0, none⟩ = some (.int .i64 x0) from (HA2.out.below q).at 0)
      have HA21 := Lib.hid (fun (w' : World) (q : Below w2.heap.size w2 w') => show w'.cell? ⟨ga, 1, none⟩ = some (.int .i64 y0) from (HA2.out.below q).at 1)
      have HC20 := Lib.hid (fun (w' : World) (q : Below w2.heap.size w2 w') => show w'.cell? ⟨gb, 0, none⟩ = some (.int .i64 x1) from (HC2.out.below q).at 0)
      have HC21 := Lib.hid (fun (w' : World) (q : Below w2.heap.size w2 w') => show w'.cell? ⟨gb, 1, none⟩ = some (.int .i64 y1) from (HC2.out.below q).at 1)
      have HH2B := Lib.hid (fun (w' : World) (q : Below w2.heap.size w2 w') => HH2.out.below q)
      have HE2B := Lib.hid (fun (w' : World) (q : Below w2.heap.size w2 w') => HE2.out.below q)
      have HSP := Lib.hid (show (Tryd.prog.info? 53).map (·.size) = some 2 by kernel_rfl)
      have HEP := Lib.hid (eql_pair x0 y0 x1 y1)
      have HEA := Lib.hid (eql_arr h g HH.out HG.out)
      have HQ := Lib.hid (show (0 ≤ x0 ∧ x0 ≤ 1099511627776) ∧ (0 ≤ x1 ∧ x1 ≤ 1099511627776) from ⟨q0, q2⟩)
      clear hS hT q0 q2 q3
      obtain ⟨e1, he1⟩ : ∃ e, ((x0 == x1) && (y0 == y1)) = e := ⟨_, rfl⟩
      rw [he1] at HEP
      cases e1 with
      | false =>
        have hst : (S == T) = false := by
          rw [hst0]
          refine decide_eq_false (fun a => ?_)
          rw [a.1, a.2.1] at he1
          simp at he1
        clear he1 hst0
        go_wp2_with (first
          | (refine wpList_load_cells rfl 53 _ rfl ga #[.int .i64 x0, .int .i64 y0] 53 _ rfl HA2.out Tryd.underlying53 rfl HSP.out ?_)
          | (refine wpList_load_cells rfl 53 _ rfl gb #[.int .i64 x1, .int .i64 y1] 53 _ rfl HC2.out Tryd.underlying53 rfl HSP.out ?_)
          | (refine wpList_bin rfl .eql 53 _ _ _ rfl (.agg #[.int .i64 x0, .int .i64 y0]) (.agg #[.int .i64 x1, .int .i64 y1]) _ rfl rfl (guard_pair _ _ _ _) HEP.out ?_))
        have HST := Lib.hid (fun w => (eql_text S T w).trans (by rw [hst]))
        have HNN := Lib.hid (show ∀ w, (binOp .neq 4 (.bool false) (.bool false)).run Tryd.prog w = .ok (.bool false) w from fun w => by kernel_rfl)
        clear hst
        go_upto_region 10 with (fail)
        refine wp_region_class (fun w' => Below w2.heap.size w2 w') (by kernel_rfl) (by kernel_rfl) (Below.refl _ _).drew ?_
        repeat (first
          | go_big_quiet_skip
          | (go_big_quiet_want; refine quiet_indexAt 53 _ _ rfl (.pointer (some ⟨ga, 0, none⟩)) (.int .i64 0) _ rfl rfl (index_pair0 ga) ?_; go_big_quiet_on; simp only [Act.put, List.setIfInBounds_toArray, List.set_cons_zero, List.set_cons_succ])
          | (go_big_quiet_want; refine quiet_indexAt 53 _ _ rfl (.pointer (some ⟨ga, 0, none⟩)) (.int .i64 1) _ rfl rfl (index_pair1 ga) ?_; go_big_quiet_on; simp only [Act.put, List.setIfInBounds_toArray, List.set_cons_zero, List.set_cons_succ])
          | (go_big_quiet_want; refine quiet_indexAt 53 _ _ rfl (.pointer (some ⟨gb, 0, none⟩)) (.int .i64 0) _ rfl rfl (index_pair0 gb) ?_; go_big_quiet_on; simp only [Act.put, List.setIfInBounds_toArray, List.set_cons_zero, List.set_cons_succ])
          | (go_big_quiet_want; refine quiet_indexAt 53 _ _ rfl (.pointer (some ⟨gb, 0, none⟩)) (.int .i64 1) _ rfl rfl (index_pair1 gb) ?_; go_big_quiet_on; simp only [Act.put, List.setIfInBounds_toArray, List.set_cons_zero, List.set_cons_succ])
          | (go_big_quiet_want; refine quiet_load_cell 3 _ rfl ⟨ga, 0, none⟩ _ rfl HA20.out Tryd.isAgg3 ?_; go_big_quiet_on; simp only [Act.put, List.setIfInBounds_toArray, List.set_cons_zero, List.set_cons_succ])
          | (go_big_quiet_want; refine quiet_load_cell 3 _ rfl ⟨ga, 1, none⟩ _ rfl HA21.out Tryd.isAgg3 ?_; go_big_quiet_on; simp only [Act.put, List.setIfInBounds_toArray, List.set_cons_zero, List.set_cons_succ])
          | (go_big_quiet_want; refine quiet_load_cell 3 _ rfl ⟨gb, 0, none⟩ _ rfl HC20.out Tryd.isAgg3 ?_; go_big_quiet_on; simp only [Act.put, List.setIfInBounds_toArray, List.set_cons_zero, List.set_cons_succ])
          | (go_big_quiet_want; refine quiet_load_cell 3 _ rfl ⟨gb, 1, none⟩ _ rfl HC21.out Tryd.isAgg3 ?_; go_big_quiet_on; simp only [Act.put, List.setIfInBounds_toArray, List.set_cons_zero, List.set_cons_succ])
          | (go_big_quiet_want; refine quiet_load_nums 22 _ rfl gh .u8 h 22 _ rfl HH2B.out Tryd.underlying22 rfl HSH.out ?_; go_big_quiet_on; simp only [Act.put, List.setIfInBounds_toArray, List.set_cons_zero, List.set_cons_succ])
          | (go_big_quiet_want; refine quiet_load_nums 22 _ rfl gg .u8 g 22 _ rfl HE2B.out Tryd.underlying22 rfl HSG.out ?_; go_big_quiet_on; simp only [Act.put, List.setIfInBounds_toArray, List.set_cons_zero, List.set_cons_succ])
          | (go_big_quiet_want; refine quiet_bin .eql 9 _ _ _ rfl (.string ⟨S.toArray⟩) (.string ⟨T.toArray⟩) _ rfl rfl (fun _ => rfl) HST.out ?_; go_big_quiet_on; simp only [Act.put, List.setIfInBounds_toArray, List.set_cons_zero, List.set_cons_succ])
          | (go_big_quiet_want; refine quiet_bin .neq 4 _ _ _ rfl (.bool false) (.bool false) _ rfl rfl (fun _ => rfl) HNN.out ?_; go_big_quiet_on; simp only [Act.put, List.setIfInBounds_toArray, List.set_cons_zero, List.set_cons_succ])
          | go_big_quiet_step ((intro hs'; first
              | (go_at_call_of 17 (Value.agg (nums .u8 h).toArray); exact (HW0.out _).mono fun e w' h => ⟨h.1, hs'.trans (h.2.mono hs'.size)⟩)
              | (go_at_call_of 17 (Value.agg (nums .u8 g).toArray); exact (HW1.out _).mono fun e w' h => ⟨h.1, hs'.trans (h.2.mono hs'.size)⟩)
              | rfl)))
        refine wpQuiet_nil ?_
        intro w3 hs3
        have HA3 := Lib.hid (HA2.out.below hs3)
        have HC3 := Lib.hid (HC2.out.below hs3)
        have HH3 := Lib.hid (HH2.out.below hs3)
        have HE3 := Lib.hid (HE2.out.below hs3)
        have HB3 := Lib.hid (HB2.out.trans (hs3.mono HB2.out.size))
        have HK3 := Lib.hid (HK.out.below HB3.out)
        clear hs3 HST HNN HA20 HA21 HC20 HC21 HH2B HE2B HW1 HA2 HC2 HH2 HE2 HB2
        go_wp2_with fail
        refine (dev_new [119, 111, 114, 100] 2 w3 (by decide) (by decide) (by decide) HK3.out).mono ?_
        rintro e w4 ⟨⟨kv, rfl, hv⟩, hb4⟩
        obtain ⟨ka, rfl⟩ := hv.ptr
        have HV4 := Lib.hid hv
        have HA4 := Lib.hid (HA3.out.below hb4)
        have HC4 := Lib.hid (HC3.out.below hb4)
        have HH4 := Lib.hid (HH3.out.below hb4)
        have HE4 := Lib.hid (HE3.out.below hb4)
        have HB4 := Lib.hid (HB3.out.trans (hb4.mono HB3.out.size))
        have HK4 := Lib.hid (HK.out.below HB4.out)
        clear hv hb4 HA3 HC3 HH3 HE3 HB3 HK3
        obtain ⟨SG, ee, hsgl, hsg⟩ := dev_signs (.pointer (some ka)) [119, 111, 114, 100] (y0 - 1) S HSL.out
        have HSIG := Lib.hid hsg
        have HSGL := Lib.hid hsgl
        have HA40 := Lib.hid (fun (w' : World) (q : SS w4 w') => show w'.cell? ⟨ga, 0, none⟩ = some (.int .i64 x0) from (HA4.out.below q.1).at 0)
        have HA41 := Lib.hid (fun (w' : World) (q : SS w4 w') => show w'.cell? ⟨ga, 1, none⟩ = some (.int .i64 y0) from (HA4.out.below q.1).at 1)
        have HH4B := Lib.hid (fun (w' : World) (q : SS w4 w') => HH4.out.below q.1)
        have HSB := Lib.hid (sub_one y0 q1.1 q1.2)
        clear hsg hsgl
        go_wp2_with fail
        go_upto_region 15 with (fail)
        refine wp_region_class (fun w' => SS w4 w') (by kernel_rfl) (by kernel_rfl) (SS.start HK4.out) ?_
        repeat (first
          | go_big_quiet_skip
          | (go_big_quiet_want; refine quiet_indexAt 53 _ _ rfl (.pointer (some ⟨ga, 0, none⟩)) (.int .i64 0) _ rfl rfl (index_pair0 ga) ?_; go_big_quiet_on; simp only [Act.put, List.setIfInBounds_toArray, List.set_cons_zero, List.set_cons_succ])
          | (go_big_quiet_want; refine quiet_indexAt 53 _ _ rfl (.pointer (some ⟨ga, 0, none⟩)) (.int .i64 1) _ rfl rfl (index_pair1 ga) ?_; go_big_quiet_on; simp only [Act.put, List.setIfInBounds_toArray, List.set_cons_zero, List.set_cons_succ])
          | (go_big_quiet_want; refine quiet_load_cell 3 _ rfl ⟨ga, 0, none⟩ _ rfl HA40.out Tryd.isAgg3 ?_; go_big_quiet_on; simp only [Act.put, List.setIfInBounds_toArray, List.set_cons_zero, List.set_cons_succ])
          | (go_big_quiet_want; refine quiet_load_cell 3 _ rfl ⟨ga, 1, none⟩ _ rfl HA41.out Tryd.isAgg3 ?_; go_big_quiet_on; simp only [Act.put, List.setIfInBounds_toArray, List.set_cons_zero, List.set_cons_succ])
          | (go_big_quiet_want; refine quiet_load_nums 22 _ rfl gh .u8 h 22 _ rfl HH4B.out Tryd.underlying22 rfl HSH.out ?_; go_big_quiet_on; simp only [Act.put, List.setIfInBounds_toArray, List.set_cons_zero, List.set_cons_succ])
          | (go_big_quiet_want; refine quiet_bin .sub 3 _ _ _ rfl (.int .i64 y0) (.int .i64 1) _ rfl rfl (fun _ => rfl) HSB.out ?_; go_big_quiet_on; simp only [Act.put, List.setIfInBounds_toArray, List.set_cons_zero, List.set_cons_succ])
          | go_big_quiet_step ((intro hs'; first
              | (go_at_call 17; exact (HW0.out _).mono fun e w' h => ⟨h.1, hs'.next h.2⟩)
              | (go_at_call 26; exact (HSIG.out _ (HV4.out.below hs'.1) hs'.2).mono fun e w' h => ⟨h.1, hs'.next h.2⟩)
              | rfl)))
        refine wpQuiet_nil ?_
        intro w5 hs5
        have HV5 := Lib.hid (HV4.out.below hs5.1)
        have HC5 := Lib.hid (HC4.out.below hs5.1)
        have HE5 := Lib.hid (HE4.out.below hs5.1)
        have HB5 := Lib.hid (HB4.out.trans (hs5.1.mono HB4.out.size))
        clear hs5 HA4 HC4 HH4 HE4 HB4 HK4 HV4 HSIG HA40 HA41 HH4B HSB HW0
        go_wp2_with fail
        refine (dev_node _ [119, 111, 114, 100] 2 w5 HV5.out).mono ?_
        rintro e w6 ⟨rfl, hb6⟩
        have HV6 := Lib.hid (HV5.out.below hb6)
        have HC6 := Lib.hid (HC5.out.below hb6)
        have HE6 := Lib.hid (HE5.out.below hb6)
        have HB6 := Lib.hid (HB5.out.trans (hb6.mono HB5.out.size))
        clear hb6 HV5 HC5 HE5 HB5
        have HDN := Lib.hid (dev_node _ [119, 111, 114, 100] 2 w6 HV6.out)
        obtain ⟨R, hR⟩ : ∃ R, rootK [119, 111, 114, 100] 2 = R := ⟨_, rfl⟩
        have HR := Lib.hid (show (⟨R, ((2 : Nat) : Int)⟩ : NodeN).Ok from ⟨by rw [← hR]; exact rootK_ok _ 2, show (-9223372036854775808 : Int) ≤ ((2 : Nat) : Int) by decide, show ((2 : Nat) : Int) ≤ 9223372036854775807 by decide⟩)
        rw [hR] at HDN ⊢
        clear hR
        go_wp2_with fail
        refine HDN.out.mono ?_
        rintro e w7 ⟨rfl, hb7⟩
        have HC7 := Lib.hid (HC6.out.below hb7)
        have HE7 := Lib.hid (HE6.out.below hb7)
        have HB7 := Lib.hid (HB6.out.trans (hb7.mono HB6.out.size))
        clear hb7 HC6 HE6 HB6 HV6 HDN
        have HBT := Lib.hid (fun w' => build_nodes R ((2 : Nat) : Int) HR.out w')
        go_wp2_with (refine wpList_build_two rfl 45 63 _ _ rfl (nodL ⟨R, ((2 : Nat) : Int)⟩) (nodL ⟨R, ((2 : Nat) : Int)⟩) rfl rfl HBT.out ?_)
        intro w8 hc8 hb8
        have HN8 := Lib.hid (nodes_two HR.out hc8.out)
        have HC8 := Lib.hid (HC7.out.below hb8.out)
        have HE8 := Lib.hid (HE7.out.below hb8.out)
        have HB8 := Lib.hid (HB7.out.trans (hb8.out.mono HB7.out.size))
        obtain ⟨gn, hgn⟩ : ∃ z, z = w7.heap.size := ⟨_, rfl⟩
        rw [← hgn] at HN8 ⊢
        clear hc8 hb8 hgn HC7 HE7 HB7 HBT
        have k2 : w8.cell? ⟨gb, 0, none⟩ = some (.int .i64 x1) := HC8.out.at 0
        have k3 : w8.cell? ⟨gb, 1, none⟩ = some (.int .i64 y1) := HC8.out.at 1
        have HZA := Lib.hid (show (Tryd.prog.info? 26).bind (·.zero) = some (.agg (autL noA).toArray) by kernel_rfl)
        have HBA := Lib.hid (built_aut ⟨x1, y1, g, SG⟩ HG.out)
        have HSA := Lib.hid (sizeAV (a := ⟨x1, y1, g, SG⟩) HG.out)
        have HZL := Lib.hid (show (autV noA).size = (autV ⟨x1, y1, g, SG⟩).size by rw [autV_size (a := ⟨x1, y1, g, SG⟩) HG.out]; rfl)
        go_wp2_with (first
          | (refine wpList_load_nums rfl 22 _ rfl gg .u8 g 22 _ rfl HE8.out Tryd.underlying22 rfl HSG.out ?_)
          | (refine wpList_build_val rfl 26 _ rfl [(0, .int .i64 x1), (1, .int .i64 y1), (2, .agg (nums .u8 g).toArray), (3, .string ⟨SG.toArray⟩)] _ (by rw [List.map_toArray]; rfl) HBA.out ?_)
          | (refine wpList_alloc_of rfl 26 rfl (autL noA) HZA.out ?_)
          | (refine wpList_store_cells rfl 26 _ _ rfl rfl w8.heap.size (autV noA) (autV ⟨x1, y1, g, SG⟩) 26 rfl rfl (heap_alloc_new w8 _) HSA.out HZL.out (autV_all _) ?_))
        intro w9 hc9 hb9
        have hb99 : Below w8.heap.size w8 w9 := But.toBelow ((Below.refl _ w8).alloc (Nat.le_refl _) _) hb9.out (Nat.le_refl _) (by rw [World.size_alloc]; exact Nat.le_succ _)
        have HX9 := Lib.hid hc9.out
        have HN9 := Lib.hid (RAt.below HN8.out hb99)
        have HB9 := Lib.hid (HB8.out.trans (hb99.mono HB8.out.size))
        have HK9 := Lib.hid (HK.out.below HB9.out)
        obtain ⟨gx, hgx⟩ : ∃ z, z = w8.heap.size := ⟨_, rfl⟩
        rw [← hgx] at HX9 ⊢
        clear hc9 hb9 hb99 hgx HN8 HB8 HC8 HE8 k2 k3 HZA HBA HZL
        obtain ⟨V, hV⟩ : ∃ V, checkN ⟨x1, y1, g, SG⟩ [⟨R, ((2 : Nat) : Int)⟩, ⟨R, ((2 : Nat) : Int)⟩] = V := ⟨_, rfl⟩
        have HCD := Lib.hid (fun (w' : World) (q : SS w9 w') => dev_check16 ⟨x1, y1, g, SG⟩ (some ⟨gn, 0, none⟩) [⟨R, ((2 : Nat) : Int)⟩, ⟨R, ((2 : Nat) : Int)⟩] 2 w' HB1.out.1 HB1.out.2 HD1.out.1 HD1.out.2 HG.out HSGL.out (fun x hx => by
          simp only [List.mem_cons, List.not_mem_nil, or_false, or_self] at hx
          rw [hx]
          exact HR.out) (show 2 ≤ 140737488351232 by decide) (RAt.below HN9.out q.1) q.2)
        have HCR := Lib.hid (fun (w' : World) (q : SS w9 w') => ref_check16 ⟨x1, y1, g, SG⟩ (some ⟨gn, 0, none⟩) [⟨R, ((2 : Nat) : Int)⟩, ⟨R, ((2 : Nat) : Int)⟩] 2 w' HB1.out.1 HB1.out.2 HD1.out.1 HD1.out.2 HG.out HSGL.out (fun x hx => by
          simp only [List.mem_cons, List.not_mem_nil, or_false, or_self] at hx
          rw [hx]
          exact HR.out) (show 2 ≤ 140737488351232 by decide) (RAt.below HN9.out q.1))
        rw [hV] at HCD HCR
        rw [show ([⟨R, ((2 : Nat) : Int)⟩, ⟨R, ((2 : Nat) : Int)⟩] : List NodeN).length = 2 from rfl] at HCD HCR
        have HVV := Lib.hid (show ∀ w', (binOp .eql 4 (.bool V) (.bool V)).run Tryd.prog w' = .ok (.bool true) w' from fun w' => by cases V <;> kernel_rfl)
        have HXB := Lib.hid (fun (w' : World) (q : SS w9 w') => HX9.out.below q.1)
        obtain ⟨AV, hAV⟩ : ∃ A, autV ⟨x1, y1, g, SG⟩ = A := ⟨_, rfl⟩
        rw [hAV] at HCD HCR HXB HSA
        clear hV hAV
        go_wp2_with fail
        go_upto_region 18 with (fail)
        refine wp_region_class (fun w' => SS w9 w') (by kernel_rfl) (by kernel_rfl) (SS.start HK9.out) ?_
        repeat (first
          | go_big_quiet_skip
          | (go_big_quiet_want; refine quiet_load_cells 26 _ rfl gx AV 26 _ rfl HXB.out Tryd.underlying26 rfl HSA.out ?_; go_big_quiet_on; simp only [Act.put, List.setIfInBounds_toArray, List.set_cons_zero, List.set_cons_succ])
          | (go_big_quiet_want; refine quiet_bin .eql 4 _ _ _ rfl (.bool V) (.bool V) _ rfl rfl (fun _ => rfl) HVV.out ?_; go_big_quiet_on; simp only [Act.put, List.setIfInBounds_toArray, List.set_cons_zero, List.set_cons_succ])
          | go_big_quiet_step ((intro hs'; first
              | (go_at_call 20; exact (HCD.out _ hs').mono fun e w' h => ⟨h.1, hs'.next h.2⟩)
              | (go_at_call 21; exact (HCR.out _ hs').mono fun e w' h => ⟨h.1, hs'.next h.2⟩)
              | rfl)))
        refine wpQuiet_nil ?_
        intro w10 hs10
        have HB10 := Lib.hid (HB9.out.trans (hs10.1.mono HB9.out.size))
        clear hs10
        go_wp2_with fail
        go_ret
        exact ⟨rfl, HB10.out⟩
      | true =>
        have hxy : x0 = x1 ∧ y0 = y1 := by simpa using he1
        obtain ⟨e2, he2⟩ : ∃ e, (h == g) = e := ⟨_, rfl⟩
        rw [he2] at HEA
        cases e2 with
        | false =>
          have hst : (S == T) = false := by
            rw [hst0]
            refine decide_eq_false (fun a => ?_)
            rw [a.2.2] at he2
            simp at he2
          clear he1 hst0 hxy he2
          go_wp2_with (first
            | (refine wpList_load_cells rfl 53 _ rfl ga #[.int .i64 x0, .int .i64 y0] 53 _ rfl HA2.out Tryd.underlying53 rfl HSP.out ?_)
            | (refine wpList_load_cells rfl 53 _ rfl gb #[.int .i64 x1, .int .i64 y1] 53 _ rfl HC2.out Tryd.underlying53 rfl HSP.out ?_)
            | (refine wpList_bin rfl .eql 53 _ _ _ rfl (.agg #[.int .i64 x0, .int .i64 y0]) (.agg #[.int .i64 x1, .int .i64 y1]) _ rfl rfl (guard_pair _ _ _ _) HEP.out ?_)
            | (refine wpList_load_want (by rfl) 22 _ rfl gh .u8 h 22 _ rfl HH2.out Tryd.underlying22 rfl HSH.out ?_)
            | (refine wpList_load_want (by rfl) 22 _ rfl gg .u8 g 22 _ rfl HE2.out Tryd.underlying22 rfl HSG.out ?_)
            | (refine wpList_bin_want (by rfl) .eql 22 _ _ _ rfl (.agg (nums .u8 h).toArray) (.agg (nums .u8 g).toArray) _ rfl rfl (guard_arr _ _ _ _) HEA.out ?_))
          have HST := Lib.hid (fun w => (eql_text S T w).trans (by rw [hst]))
          have HNN := Lib.hid (show ∀ w, (binOp .neq 4 (.bool false) (.bool false)).run Tryd.prog w = .ok (.bool false) w from fun w => by kernel_rfl)
          clear hst
          go_upto_region 10 with (fail)
          refine wp_region_class (fun w' => Below w2.heap.size w2 w') (by kernel_rfl) (by kernel_rfl) (Below.refl _ _).drew ?_
          repeat (first
            | go_big_quiet_skip
            | (go_big_quiet_want; refine quiet_indexAt 53 _ _ rfl (.pointer (some ⟨ga, 0, none⟩)) (.int .i64 0) _ rfl rfl (index_pair0 ga) ?_; go_big_quiet_on; simp only [Act.put, List.setIfInBounds_toArray, List.set_cons_zero, List.set_cons_succ])
            | (go_big_quiet_want; refine quiet_indexAt 53 _ _ rfl (.pointer (some ⟨ga, 0, none⟩)) (.int .i64 1) _ rfl rfl (index_pair1 ga) ?_; go_big_quiet_on; simp only [Act.put, List.setIfInBounds_toArray, List.set_cons_zero, List.set_cons_succ])
            | (go_big_quiet_want; refine quiet_indexAt 53 _ _ rfl (.pointer (some ⟨gb, 0, none⟩)) (.int .i64 0) _ rfl rfl (index_pair0 gb) ?_; go_big_quiet_on; simp only [Act.put, List.setIfInBounds_toArray, List.set_cons_zero, List.set_cons_succ])
            | (go_big_quiet_want; refine quiet_indexAt 53 _ _ rfl (.pointer (some ⟨gb, 0, none⟩)) (.int .i64 1) _ rfl rfl (index_pair1 gb) ?_; go_big_quiet_on; simp only [Act.put, List.setIfInBounds_toArray, List.set_cons_zero, List.set_cons_succ])
            | (go_big_quiet_want; refine quiet_load_cell 3 _ rfl ⟨ga, 0, none⟩ _ rfl HA20.out Tryd.isAgg3 ?_; go_big_quiet_on; simp only [Act.put, List.setIfInBounds_toArray, List.set_cons_zero, List.set_cons_succ])
            | (go_big_quiet_want; refine quiet_load_cell 3 _ rfl ⟨ga, 1, none⟩ _ rfl HA21.out Tryd.isAgg3 ?_; go_big_quiet_on; simp only [Act.put, List.setIfInBounds_toArray, List.set_cons_zero, List.set_cons_succ])
            | (go_big_quiet_want; refine quiet_load_cell 3 _ rfl ⟨gb, 0, none⟩ _ rfl HC20.out Tryd.isAgg3 ?_; go_big_quiet_on; simp only [Act.put, List.setIfInBounds_toArray, List.set_cons_zero, List.set_cons_succ])
            | (go_big_quiet_want; refine quiet_load_cell 3 _ rfl ⟨gb, 1, none⟩ _ rfl HC21.out Tryd.isAgg3 ?_; go_big_quiet_on; simp only [Act.put, List.setIfInBounds_toArray, List.set_cons_zero, List.set_cons_succ])
            | (go_big_quiet_want; refine quiet_load_nums 22 _ rfl gh .u8 h 22 _ rfl HH2B.out Tryd.underlying22 rfl HSH.out ?_; go_big_quiet_on; simp only [Act.put, List.setIfInBounds_toArray, List.set_cons_zero, List.set_cons_succ])
            | (go_big_quiet_want; refine quiet_load_nums 22 _ rfl gg .u8 g 22 _ rfl HE2B.out Tryd.underlying22 rfl HSG.out ?_; go_big_quiet_on; simp only [Act.put, List.setIfInBounds_toArray, List.set_cons_zero, List.set_cons_succ])
            | (go_big_quiet_want; refine quiet_bin .eql 9 _ _ _ rfl (.string ⟨S.toArray⟩) (.string ⟨T.toArray⟩) _ rfl rfl (fun _ => rfl) HST.out ?_; go_big_quiet_on; simp only [Act.put, List.setIfInBounds_toArray, List.set_cons_zero, List.set_cons_succ])
            | (go_big_quiet_want; refine quiet_bin .neq 4 _ _ _ rfl (.bool false) (.bool false) _ rfl rfl (fun _ => rfl) HNN.out ?_; go_big_quiet_on; simp only [Act.put, List.setIfInBounds_toArray, List.set_cons_zero, List.set_cons_succ])
            | go_big_quiet_step ((intro hs'; first
                | (go_at_call_of 17 (Value.agg (nums .u8 h).toArray); exact (HW0.out _).mono fun e w' h => ⟨h.1, hs'.trans (h.2.mono hs'.size)⟩)
                | (go_at_call_of 17 (Value.agg (nums .u8 g).toArray); exact (HW1.out _).mono fun e w' h => ⟨h.1, hs'.trans (h.2.mono hs'.size)⟩)
                | rfl)))
          refine wpQuiet_nil ?_
          intro w3 hs3
          have HA3 := Lib.hid (HA2.out.below hs3)
          have HC3 := Lib.hid (HC2.out.below hs3)
          have HH3 := Lib.hid (HH2.out.below hs3)
          have HE3 := Lib.hid (HE2.out.below hs3)
          have HB3 := Lib.hid (HB2.out.trans (hs3.mono HB2.out.size))
          have HK3 := Lib.hid (HK.out.below HB3.out)
          clear hs3 HST HNN HA20 HA21 HC20 HC21 HH2B HE2B HW1 HA2 HC2 HH2 HE2 HB2
          go_wp2_with fail
          refine (dev_new [119, 111, 114, 100] 2 w3 (by decide) (by decide) (by decide) HK3.out).mono ?_
          rintro e w4 ⟨⟨kv, rfl, hv⟩, hb4⟩
          obtain ⟨ka, rfl⟩ := hv.ptr
          have HV4 := Lib.hid hv
          have HA4 := Lib.hid (HA3.out.below hb4)
          have HC4 := Lib.hid (HC3.out.below hb4)
          have HH4 := Lib.hid (HH3.out.below hb4)
          have HE4 := Lib.hid (HE3.out.below hb4)
          have HB4 := Lib.hid (HB3.out.trans (hb4.mono HB3.out.size))
          have HK4 := Lib.hid (HK.out.below HB4.out)
          clear hv hb4 HA3 HC3 HH3 HE3 HB3 HK3
          obtain ⟨SG, ee, hsgl, hsg⟩ := dev_signs (.pointer (some ka)) [119, 111, 114, 100] (y0 - 1) S HSL.out
          have HSIG := Lib.hid hsg
          have HSGL := Lib.hid hsgl
          have HA40 := Lib.hid (fun (w' : World) (q : SS w4 w') => show w'.cell? ⟨ga, 0, none⟩ = some (.int .i64 x0) from (HA4.out.below q.1).at 0)
          have HA41 := Lib.hid (fun (w' : World) (q : SS w4 w') => show w'.cell? ⟨ga, 1, none⟩ = some (.int .i64 y0) from (HA4.out.below q.1).at 1)
          have HH4B := Lib.hid (fun (w' : World) (q : SS w4 w') => HH4.out.below q.1)
          have HSB := Lib.hid (sub_one y0 q1.1 q1.2)
          clear hsg hsgl
          go_wp2_with fail
          go_upto_region 15 with (fail)
          refine wp_region_class (fun w' => SS w4 w') (by kernel_rfl) (by kernel_rfl) (SS.start HK4.out) ?_
          repeat (first
            | go_big_quiet_skip
            | (go_big_quiet_want; refine quiet_indexAt 53 _ _ rfl (.pointer (some ⟨ga, 0, none⟩)) (.int .i64 0) _ rfl rfl (index_pair0 ga) ?_; go_big_quiet_on; simp only [Act.put, List.setIfInBounds_toArray, List.set_cons_zero, List.set_cons_succ])
            | (go_big_quiet_want; refine quiet_indexAt 53 _ _ rfl (.pointer (some ⟨ga, 0, none⟩)) (.int .i64 1) _ rfl rfl (index_pair1 ga) ?_; go_big_quiet_on; simp only [Act.put, List.setIfInBounds_toArray, List.set_cons_zero, List.set_cons_succ])
            | (go_big_quiet_want; refine quiet_load_cell 3 _ rfl ⟨ga, 0, none⟩ _ rfl HA40.out Tryd.isAgg3 ?_; go_big_quiet_on; simp only [Act.put, List.setIfInBounds_toArray, List.set_cons_zero, List.set_cons_succ])
            | (go_big_quiet_want; refine quiet_load_cell 3 _ rfl ⟨ga, 1, none⟩ _ rfl HA41.out Tryd.isAgg3 ?_; go_big_quiet_on; simp only [Act.put, List.setIfInBounds_toArray, List.set_cons_zero, List.set_cons_succ])
            | (go_big_quiet_want; refine quiet_load_nums 22 _ rfl gh .u8 h 22 _ rfl HH4B.out Tryd.underlying22 rfl HSH.out ?_; go_big_quiet_on; simp only [Act.put, List.setIfInBounds_toArray, List.set_cons_zero, List.set_cons_succ])
            | (go_big_quiet_want; refine quiet_bin .sub 3 _ _ _ rfl (.int .i64 y0) (.int .i64 1) _ rfl rfl (fun _ => rfl) HSB.out ?_; go_big_quiet_on; simp only [Act.put, List.setIfInBounds_toArray, List.set_cons_zero, List.set_cons_succ])
            | go_big_quiet_step ((intro hs'; first
                | (go_at_call 17; exact (HW0.out _).mono fun e w' h => ⟨h.1, hs'.next h.2⟩)
                | (go_at_call 26; exact (HSIG.out _ (HV4.out.below hs'.1) hs'.2).mono fun e w' h => ⟨h.1, hs'.next h.2⟩)
                | rfl)))
          refine wpQuiet_nil ?_
          intro w5 hs5
          have HV5 := Lib.hid (HV4.out.below hs5.1)
          have HC5 := Lib.hid (HC4.out.below hs5.1)
          have HE5 := Lib.hid (HE4.out.below hs5.1)
          have HB5 := Lib.hid (HB4.out.trans (hs5.1.mono HB4.out.size))
          clear hs5 HA4 HC4 HH4 HE4 HB4 HK4 HV4 HSIG HA40 HA41 HH4B HSB HW0
          go_wp2_with fail
          refine (dev_node _ [119, 111, 114, 100] 2 w5 HV5.out).mono ?_
          rintro e w6 ⟨rfl, hb6⟩
          have HV6 := Lib.hid (HV5.out.below hb6)
          have HC6 := Lib.hid (HC5.out.below hb6)
          have HE6 := Lib.hid (HE5.out.below hb6)
          have HB6 := Lib.hid (HB5.out.trans (hb6.mono HB5.out.size))
          clear hb6 HV5 HC5 HE5 HB5
          have HDN := Lib.hid (dev_node _ [119, 111, 114, 100] 2 w6 HV6.out)
          obtain ⟨R, hR⟩ : ∃ R, rootK [119, 111, 114, 100] 2 = R := ⟨_, rfl⟩
          have HR := Lib.hid (show (⟨R, ((2 : Nat) : Int)⟩ : NodeN).Ok from ⟨by rw [← hR]; exact rootK_ok _ 2, show (-9223372036854775808 : Int) ≤ ((2 : Nat) : Int) by decide, show ((2 : Nat) : Int) ≤ 9223372036854775807 by decide⟩)
          rw [hR] at HDN ⊢
          clear hR
          go_wp2_with fail
          refine HDN.out.mono ?_
          rintro e w7 ⟨rfl, hb7⟩
          have HC7 := Lib.hid (HC6.out.below hb7)
          have HE7 := Lib.hid (HE6.out.below hb7)
          have HB7 := Lib.hid (HB6.out.trans (hb7.mono HB6.out.size))
          clear hb7 HC6 HE6 HB6 HV6 HDN
          have HBT := Lib.hid (fun w' => build_nodes R ((2 : Nat) : Int) HR.out w')
          go_wp2_with (refine wpList_build_two rfl 45 63 _ _ rfl (nodL ⟨R, ((2 : Nat) : Int)⟩) (nodL ⟨R, ((2 : Nat) : Int)⟩) rfl rfl HBT.out ?_)
          intro w8 hc8 hb8
          have HN8 := Lib.hid (nodes_two HR.out hc8.out)
          have HC8 := Lib.hid (HC7.out.below hb8.out)
          have HE8 := Lib.hid (HE7.out.below hb8.out)
          have HB8 := Lib.hid (HB7.out.trans (hb8.out.mono HB7.out.size))
          obtain ⟨gn, hgn⟩ : ∃ z, z = w7.heap.size := ⟨_, rfl⟩
          rw [← hgn] at HN8 ⊢
          clear hc8 hb8 hgn HC7 HE7 HB7 HBT
          have k2 : w8.cell? ⟨gb, 0, none⟩ = some (.int .i64 x1) := HC8.out.at 0
          have k3 : w8.cell? ⟨gb, 1, none⟩ = some (.int .i64 y1) := HC8.out.at 1
          have HZA := Lib.hid (show (Tryd.prog.info? 26).bind (·.zero) = some (.agg (autL noA).toArray) by kernel_rfl)
          have HBA := Lib.hid (built_aut ⟨x1, y1, g, SG⟩ HG.out)
          have HSA := Lib.hid (sizeAV (a := ⟨x1, y1, g, SG⟩) HG.out)
          have HZL := Lib.hid (show (autV noA).size = (autV ⟨x1, y1, g, SG⟩).size by rw [autV_size (a := ⟨x1, y1, g, SG⟩) HG.out]; rfl)
          go_wp2_with (first
            | (refine wpList_load_nums rfl 22 _ rfl gg .u8 g 22 _ rfl HE8.out Tryd.underlying22 rfl HSG.out ?_)
            | (refine wpList_build_val rfl 26 _ rfl [(0, .int .i64 x1), (1, .int .i64 y1), (2, .agg (nums .u8 g).toArray), (3, .string ⟨SG.toArray⟩)] _ (by rw [List.map_toArray]; rfl) HBA.out ?_)
            | (refine wpList_alloc_of rfl 26 rfl (autL noA) HZA.out ?_)
            | (refine wpList_store_cells rfl 26 _ _ rfl rfl w8.heap.size (autV noA) (autV ⟨x1, y1, g, SG⟩) 26 rfl rfl (heap_alloc_new w8 _) HSA.out HZL.out (autV_all _) ?_))
          intro w9 hc9 hb9
          have hb99 : Below w8.heap.size w8 w9 := But.toBelow ((Below.refl _ w8).alloc (Nat.le_refl _) _) hb9.out (Nat.le_refl _) (by rw [World.size_alloc]; exact Nat.le_succ _)
          have HX9 := Lib.hid hc9.out
          have HN9 := Lib.hid (RAt.below HN8.out hb99)
          have HB9 := Lib.hid (HB8.out.trans (hb99.mono HB8.out.size))
          have HK9 := Lib.hid (HK.out.below HB9.out)
          obtain ⟨gx, hgx⟩ : ∃ z, z = w8.heap.size := ⟨_, rfl⟩
          rw [← hgx] at HX9 ⊢
          clear hc9 hb9 hb99 hgx HN8 HB8 HC8 HE8 k2 k3 HZA HBA HZL
          obtain ⟨V, hV⟩ : ∃ V, checkN ⟨x1, y1, g, SG⟩ [⟨R, ((2 : Nat) : Int)⟩, ⟨R, ((2 : Nat) : Int)⟩] = V := ⟨_, rfl⟩
          have HCD := Lib.hid (fun (w' : World) (q : SS w9 w') => dev_check16 ⟨x1, y1, g, SG⟩ (some ⟨gn, 0, none⟩) [⟨R, ((2 : Nat) : Int)⟩, ⟨R, ((2 : Nat) : Int)⟩] 2 w' HB1.out.1 HB1.out.2 HD1.out.1 HD1.out.2 HG.out HSGL.out (fun x hx => by
            simp only [List.mem_cons, List.not_mem_nil, or_false, or_self] at hx
            rw [hx]
            exact HR.out) (show 2 ≤ 140737488351232 by decide) (RAt.below HN9.out q.1) q.2)
          have HCR := Lib.hid (fun (w' : World) (q : SS w9 w') => ref_check16 ⟨x1, y1, g, SG⟩ (some ⟨gn, 0, none⟩) [⟨R, ((2 : Nat) : Int)⟩, ⟨R, ((2 : Nat) : Int)⟩] 2 w' HB1.out.1 HB1.out.2 HD1.out.1 HD1.out.2 HG.out HSGL.out (fun x hx => by
            simp only [List.mem_cons, List.not_mem_nil, or_false, or_self] at hx
            rw [hx]
            exact HR.out) (show 2 ≤ 140737488351232 by decide) (RAt.below HN9.out q.1))
          rw [hV] at HCD HCR
          rw [show ([⟨R, ((2 : Nat) : Int)⟩, ⟨R, ((2 : Nat) : Int)⟩] : List NodeN).length = 2 from rfl] at HCD HCR
          have HVV := Lib.hid (show ∀ w', (binOp .eql 4 (.bool V) (.bool V)).run Tryd.prog w' = .ok (.bool true) w' from fun w' => by cases V <;> kernel_rfl)
          have HXB := Lib.hid (fun (w' : World) (q : SS w9 w') => HX9.out.below q.1)
          obtain ⟨AV, hAV⟩ : ∃ A, autV ⟨x1, y1, g, SG⟩ = A := ⟨_, rfl⟩
          rw [hAV] at HCD HCR HXB HSA
          clear hV hAV
          go_wp2_with fail
          go_upto_region 18 with (fail)
          refine wp_region_class (fun w' => SS w9 w') (by kernel_rfl) (by kernel_rfl) (SS.start HK9.out) ?_
          repeat (first
            | go_big_quiet_skip
            | (go_big_quiet_want; refine quiet_load_cells 26 _ rfl gx AV 26 _ rfl HXB.out Tryd.underlying26 rfl HSA.out ?_; go_big_quiet_on; simp only [Act.put, List.setIfInBounds_toArray, List.set_cons_zero, List.set_cons_succ])
            | (go_big_quiet_want; refine quiet_bin .eql 4 _ _ _ rfl (.bool V) (.bool V) _ rfl rfl (fun _ => rfl) HVV.out ?_; go_big_quiet_on; simp only [Act.put, List.setIfInBounds_toArray, List.set_cons_zero, List.set_cons_succ])
            | go_big_quiet_step ((intro hs'; first
                | (go_at_call 20; exact (HCD.out _ hs').mono fun e w' h => ⟨h.1, hs'.next h.2⟩)
                | (go_at_call 21; exact (HCR.out _ hs').mono fun e w' h => ⟨h.1, hs'.next h.2⟩)
                | rfl)))
          refine wpQuiet_nil ?_
          intro w10 hs10
          have HB10 := Lib.hid (HB9.out.trans (hs10.1.mono HB9.out.size))
          clear hs10
          go_wp2_with fail
          go_ret
          exact ⟨rfl, HB10.out⟩
        | true =>
          have hst : (S == T) = true := by
            rw [hst0]
            exact decide_eq_true ⟨hxy.1, hxy.2, by simpa using he2⟩
          clear he1 hst0 hxy he2
          go_wp2_with (first
            | (refine wpList_load_cells rfl 53 _ rfl ga #[.int .i64 x0, .int .i64 y0] 53 _ rfl HA2.out Tryd.underlying53 rfl HSP.out ?_)
            | (refine wpList_load_cells rfl 53 _ rfl gb #[.int .i64 x1, .int .i64 y1] 53 _ rfl HC2.out Tryd.underlying53 rfl HSP.out ?_)
            | (refine wpList_bin rfl .eql 53 _ _ _ rfl (.agg #[.int .i64 x0, .int .i64 y0]) (.agg #[.int .i64 x1, .int .i64 y1]) _ rfl rfl (guard_pair _ _ _ _) HEP.out ?_)
            | (refine wpList_load_want (by rfl) 22 _ rfl gh .u8 h 22 _ rfl HH2.out Tryd.underlying22 rfl HSH.out ?_)
            | (refine wpList_load_want (by rfl) 22 _ rfl gg .u8 g 22 _ rfl HE2.out Tryd.underlying22 rfl HSG.out ?_)
            | (refine wpList_bin_want (by rfl) .eql 22 _ _ _ rfl (.agg (nums .u8 h).toArray) (.agg (nums .u8 g).toArray) _ rfl rfl (guard_arr _ _ _ _) HEA.out ?_))
          have HST := Lib.hid (fun w => (eql_text S T w).trans (by rw [hst]))
          have HNN := Lib.hid (show ∀ w, (binOp .neq 4 (.bool true) (.bool true)).run Tryd.prog w = .ok (.bool false) w from fun w => by kernel_rfl)
          clear hst
          go_upto_region 10 with (fail)
          refine wp_region_class (fun w' => Below w2.heap.size w2 w') (by kernel_rfl) (by kernel_rfl) (Below.refl _ _).drew ?_
          repeat (first
            | go_big_quiet_skip
            | (go_big_quiet_want; refine quiet_indexAt 53 _ _ rfl (.pointer (some ⟨ga, 0, none⟩)) (.int .i64 0) _ rfl rfl (index_pair0 ga) ?_; go_big_quiet_on; simp only [Act.put, List.setIfInBounds_toArray, List.set_cons_zero, List.set_cons_succ])
            | (go_big_quiet_want; refine quiet_indexAt 53 _ _ rfl (.pointer (some ⟨ga, 0, none⟩)) (.int .i64 1) _ rfl rfl (index_pair1 ga) ?_; go_big_quiet_on; simp only [Act.put, List.setIfInBounds_toArray, List.set_cons_zero, List.set_cons_succ])
            | (go_big_quiet_want; refine quiet_indexAt 53 _ _ rfl (.pointer (some ⟨gb, 0, none⟩)) (.int .i64 0) _ rfl rfl (index_pair0 gb) ?_; go_big_quiet_on; simp only [Act.put, List.setIfInBounds_toArray, List.set_cons_zero, List.set_cons_succ])
            | (go_big_quiet_want; refine quiet_indexAt 53 _ _ rfl (.pointer (some ⟨gb, 0, none⟩)) (.int .i64 1) _ rfl rfl (index_pair1 gb) ?_; go_big_quiet_on; simp only [Act.put, List.setIfInBounds_toArray, List.set_cons_zero, List.set_cons_succ])
            | (go_big_quiet_want; refine quiet_load_cell 3 _ rfl ⟨ga, 0, none⟩ _ rfl HA20.out Tryd.isAgg3 ?_; go_big_quiet_on; simp only [Act.put, List.setIfInBounds_toArray, List.set_cons_zero, List.set_cons_succ])
            | (go_big_quiet_want; refine quiet_load_cell 3 _ rfl ⟨ga, 1, none⟩ _ rfl HA21.out Tryd.isAgg3 ?_; go_big_quiet_on; simp only [Act.put, List.setIfInBounds_toArray, List.set_cons_zero, List.set_cons_succ])
            | (go_big_quiet_want; refine quiet_load_cell 3 _ rfl ⟨gb, 0, none⟩ _ rfl HC20.out Tryd.isAgg3 ?_; go_big_quiet_on; simp only [Act.put, List.setIfInBounds_toArray, List.set_cons_zero, List.set_cons_succ])
            | (go_big_quiet_want; refine quiet_load_cell 3 _ rfl ⟨gb, 1, none⟩ _ rfl HC21.out Tryd.isAgg3 ?_; go_big_quiet_on; simp only [Act.put, List.setIfInBounds_toArray, List.set_cons_zero, List.set_cons_succ])
            | (go_big_quiet_want; refine quiet_load_nums 22 _ rfl gh .u8 h 22 _ rfl HH2B.out Tryd.underlying22 rfl HSH.out ?_; go_big_quiet_on; simp only [Act.put, List.setIfInBounds_toArray, List.set_cons_zero, List.set_cons_succ])
            | (go_big_quiet_want; refine quiet_load_nums 22 _ rfl gg .u8 g 22 _ rfl HE2B.out Tryd.underlying22 rfl HSG.out ?_; go_big_quiet_on; simp only [Act.put, List.setIfInBounds_toArray, List.set_cons_zero, List.set_cons_succ])
            | (go_big_quiet_want; refine quiet_bin .eql 9 _ _ _ rfl (.string ⟨S.toArray⟩) (.string ⟨T.toArray⟩) _ rfl rfl (fun _ => rfl) HST.out ?_; go_big_quiet_on; simp only [Act.put, List.setIfInBounds_toArray, List.set_cons_zero, List.set_cons_succ])
            | (go_big_quiet_want; refine quiet_bin .neq 4 _ _ _ rfl (.bool true) (.bool true) _ rfl rfl (fun _ => rfl) HNN.out ?_; go_big_quiet_on; simp only [Act.put, List.setIfInBounds_toArray, List.set_cons_zero, List.set_cons_succ])
            | go_big_quiet_step ((intro hs'; first
                | (go_at_call_of 17 (Value.agg (nums .u8 h).toArray); exact (HW0.out _).mono fun e w' h => ⟨h.1, hs'.trans (h.2.mono hs'.size)⟩)
                | (go_at_call_of 17 (Value.agg (nums .u8 g).toArray); exact (HW1.out _).mono fun e w' h => ⟨h.1, hs'.trans (h.2.mono hs'.size)⟩)
                | rfl)))
          refine wpQuiet_nil ?_
          intro w3 hs3
          have HA3 := Lib.hid (HA2.out.below hs3)
          have HC3 := Lib.hid (HC2.out.below hs3)
          have HH3 := Lib.hid (HH2.out.below hs3)
          have HE3 := Lib.hid (HE2.out.below hs3)
          have HB3 := Lib.hid (HB2.out.trans (hs3.mono HB2.out.size))
          have HK3 := Lib.hid (HK.out.below HB3.out)
          clear hs3 HST HNN HA20 HA21 HC20 HC21 HH2B HE2B HW1 HA2 HC2 HH2 HE2 HB2
          go_wp2_with fail
          refine (dev_new [119, 111, 114, 100] 2 w3 (by decide) (by decide) (by decide) HK3.out).mono ?_
          rintro e w4 ⟨⟨kv, rfl, hv⟩, hb4⟩
          obtain ⟨ka, rfl⟩ := hv.ptr
          have HV4 := Lib.hid hv
          have HA4 := Lib.hid (HA3.out.below hb4)
          have HC4 := Lib.hid (HC3.out.below hb4)
          have HH4 := Lib.hid (HH3.out.below hb4)
          have HE4 := Lib.hid (HE3.out.below hb4)
          have HB4 := Lib.hid (HB3.out.trans (hb4.mono HB3.out.size))
          have HK4 := Lib.hid (HK.out.below HB4.out)
          clear hv hb4 HA3 HC3 HH3 HE3 HB3 HK3
          obtain ⟨SG, ee, hsgl, hsg⟩ := dev_signs (.pointer (some ka)) [119, 111, 114, 100] (y0 - 1) S HSL.out
          have HSIG := Lib.hid hsg
          have HSGL := Lib.hid hsgl
          have HA40 := Lib.hid (fun (w' : World) (q : SS w4 w') => show w'.cell? ⟨ga, 0, none⟩ = some (.int .i64 x0) from (HA4.out.below q.1).at 0)
          have HA41 := Lib.hid (fun (w' : World) (q : SS w4 w') => show w'.cell? ⟨ga, 1, none⟩ = some (.int .i64 y0) from (HA4.out.below q.1).at 1)
          have HH4B := Lib.hid (fun (w' : World) (q : SS w4 w') => HH4.out.below q.1)
          have HSB := Lib.hid (sub_one y0 q1.1 q1.2)
          clear hsg hsgl
          go_wp2_with fail
          go_upto_region 15 with (fail)
          refine wp_region_class (fun w' => SS w4 w') (by kernel_rfl) (by kernel_rfl) (SS.start HK4.out) ?_
          repeat (first
            | go_big_quiet_skip
            | (go_big_quiet_want; refine quiet_indexAt 53 _ _ rfl (.pointer (some ⟨ga, 0, none⟩)) (.int .i64 0) _ rfl rfl (index_pair0 ga) ?_; go_big_quiet_on; simp only [Act.put, List.setIfInBounds_toArray, List.set_cons_zero, List.set_cons_succ])
            | (go_big_quiet_want; refine quiet_indexAt 53 _ _ rfl (.pointer (some ⟨ga, 0, none⟩)) (.int .i64 1) _ rfl rfl (index_pair1 ga) ?_; go_big_quiet_on; simp only [Act.put, List.setIfInBounds_toArray, List.set_cons_zero, List.set_cons_succ])
            | (go_big_quiet_want; refine quiet_load_cell 3 _ rfl ⟨ga, 0, none⟩ _ rfl HA40.out Tryd.isAgg3 ?_; go_big_quiet_on; simp only [Act.put, List.setIfInBounds_toArray, List.set_cons_zero, List.set_cons_succ])
            | (go_big_quiet_want; refine quiet_load_cell 3 _ rfl ⟨ga, 1, none⟩ _ rfl HA41.out Tryd.isAgg3 ?_; go_big_quiet_on; simp only [Act.put, List.setIfInBounds_toArray, List.set_cons_zero, List.set_cons_succ])
            | (go_big_quiet_want; refine quiet_load_nums 22 _ rfl gh .u8 h 22 _ rfl HH4B.out Tryd.underlying22 rfl HSH.out ?_; go_big_quiet_on; simp only [Act.put, List.setIfInBounds_toArray, List.set_cons_zero, List.set_cons_succ])
            | (go_big_quiet_want; refine quiet_bin .sub 3 _ _ _ rfl (.int .i64 y0) (.int .i64 1) _ rfl rfl (fun _ => rfl) HSB.out ?_; go_big_quiet_on; simp only [Act.put, List.setIfInBounds_toArray, List.set_cons_zero, List.set_cons_succ])
            | go_big_quiet_step ((intro hs'; first
                | (go_at_call 17; exact (HW0.out _).mono fun e w' h => ⟨h.1, hs'.next h.2⟩)
                | (go_at_call 26; exact (HSIG.out _ (HV4.out.below hs'.1) hs'.2).mono fun e w' h => ⟨h.1, hs'.next h.2⟩)
                | rfl)))
          refine wpQuiet_nil ?_
          intro w5 hs5
          have HV5 := Lib.hid (HV4.out.below hs5.1)
          have HC5 := Lib.hid (HC4.out.below hs5.1)
          have HE5 := Lib.hid (HE4.out.below hs5.1)
          have HB5 := Lib.hid (HB4.out.trans (hs5.1.mono HB4.out.size))
          clear hs5 HA4 HC4 HH4 HE4 HB4 HK4 HV4 HSIG HA40 HA41 HH4B HSB HW0
          go_wp2_with fail
          refine (dev_node _ [119, 111, 114, 100] 2 w5 HV5.out).mono ?_
          rintro e w6 ⟨rfl, hb6⟩
          have HV6 := Lib.hid (HV5.out.below hb6)
          have HC6 := Lib.hid (HC5.out.below hb6)
          have HE6 := Lib.hid (HE5.out.below hb6)
          have HB6 := Lib.hid (HB5.out.trans (hb6.mono HB5.out.size))
          clear hb6 HV5 HC5 HE5 HB5
          have HDN := Lib.hid (dev_node _ [119, 111, 114, 100] 2 w6 HV6.out)
          obtain ⟨R, hR⟩ : ∃ R, rootK [119, 111, 114, 100] 2 = R := ⟨_, rfl⟩
          have HR := Lib.hid (show (⟨R, ((2 : Nat) : Int)⟩ : NodeN).Ok from ⟨by rw [← hR]; exact rootK_ok _ 2, show (-9223372036854775808 : Int) ≤ ((2 : Nat) : Int) by decide, show ((2 : Nat) : Int) ≤ 9223372036854775807 by decide⟩)
          rw [hR] at HDN ⊢
          clear hR
          go_wp2_with fail
          refine HDN.out.mono ?_
          rintro e w7 ⟨rfl, hb7⟩
          have HC7 := Lib.hid (HC6.out.below hb7)
          have HE7 := Lib.hid (HE6.out.below hb7)
          have HB7 := Lib.hid (HB6.out.trans (hb7.mono HB6.out.size))
          clear hb7 HC6 HE6 HB6 HV6 HDN
          have HBT := Lib.hid (fun w' => build_nodes R ((2 : Nat) : Int) HR.out w')
          go_wp2_with (refine wpList_build_two rfl 45 63 _ _ rfl (nodL ⟨R, ((2 : Nat) : Int)⟩) (nodL ⟨R, ((2 : Nat) : Int)⟩) rfl rfl HBT.out ?_)
          intro w8 hc8 hb8
          have HN8 := Lib.hid (nodes_two HR.out hc8.out)
          have HC8 := Lib.hid (HC7.out.below hb8.out)
          have HE8 := Lib.hid (HE7.out.below hb8.out)
          have HB8 := Lib.hid (HB7.out.trans (hb8.out.mono HB7.out.size))
          obtain ⟨gn, hgn⟩ : ∃ z, z = w7.heap.size := ⟨_, rfl⟩
          rw [← hgn] at HN8 ⊢
          clear hc8 hb8 hgn HC7 HE7 HB7 HBT
          have k2 : w8.cell? ⟨gb, 0, none⟩ = some (.int .i64 x1) := HC8.out.at 0
          have k3 : w8.cell? ⟨gb, 1, none⟩ = some (.int .i64 y1) := HC8.out.at 1
          have HZA := Lib.hid (show (Tryd.prog.info? 26).bind (·.zero) = some (.agg (autL noA).toArray) by kernel_rfl)
          have HBA := Lib.hid (built_aut ⟨x1, y1, g, SG⟩ HG.out)
          have HSA := Lib.hid (sizeAV (a := ⟨x1, y1, g, SG⟩) HG.out)
          have HZL := Lib.hid (show (autV noA).size = (autV ⟨x1, y1, g, SG⟩).size by rw [autV_size (a := ⟨x1, y1, g, SG⟩) HG.out]; rfl)
          go_wp2_with (first
            | (refine wpList_load_nums rfl 22 _ rfl gg .u8 g 22 _ rfl HE8.out Tryd.underlying22 rfl HSG.out ?_)
            | (refine wpList_build_val rfl 26 _ rfl [(0, .int .i64 x1), (1, .int .i64 y1), (2, .agg (nums .u8 g).toArray), (3, .string ⟨SG.toArray⟩)] _ (by rw [List.map_toArray]; rfl) HBA.out ?_)
            | (refine wpList_alloc_of rfl 26 rfl (autL noA) HZA.out ?_)
            | (refine wpList_store_cells rfl 26 _ _ rfl rfl w8.heap.size (autV noA) (autV ⟨x1, y1, g, SG⟩) 26 rfl rfl (heap_alloc_new w8 _) HSA.out HZL.out (autV_all _) ?_))
          intro w9 hc9 hb9
          have hb99 : Below w8.heap.size w8 w9 := But.toBelow ((Below.refl _ w8).alloc (Nat.le_refl _) _) hb9.out (Nat.le_refl _) (by rw [World.size_alloc]; exact Nat.le_succ _)
          have HX9 := Lib.hid hc9.out
          have HN9 := Lib.hid (RAt.below HN8.out hb99)
          have HB9 := Lib.hid (HB8.out.trans (hb99.mono HB8.out.size))
          have HK9 := Lib.hid (HK.out.below HB9.out)
          obtain ⟨gx, hgx⟩ : ∃ z, z = w8.heap.size := ⟨_, rfl⟩
          rw [← hgx] at HX9 ⊢
          clear hc9 hb9 hb99 hgx HN8 HB8 HC8 HE8 k2 k3 HZA HBA HZL
          obtain ⟨V, hV⟩ : ∃ V, checkN ⟨x1, y1, g, SG⟩ [⟨R, ((2 : Nat) : Int)⟩, ⟨R, ((2 : Nat) : Int)⟩] = V := ⟨_, rfl⟩
          have HCD := Lib.hid (fun (w' : World) (q : SS w9 w') => dev_check16 ⟨x1, y1, g, SG⟩ (some ⟨gn, 0, none⟩) [⟨R, ((2 : Nat) : Int)⟩, ⟨R, ((2 : Nat) : Int)⟩] 2 w' HB1.out.1 HB1.out.2 HD1.out.1 HD1.out.2 HG.out HSGL.out (fun x hx => by
            simp only [List.mem_cons, List.not_mem_nil, or_false, or_self] at hx
            rw [hx]
            exact HR.out) (show 2 ≤ 140737488351232 by decide) (RAt.below HN9.out q.1) q.2)
          have HCR := Lib.hid (fun (w' : World) (q : SS w9 w') => ref_check16 ⟨x1, y1, g, SG⟩ (some ⟨gn, 0, none⟩) [⟨R, ((2 : Nat) : Int)⟩, ⟨R, ((2 : Nat) : Int)⟩] 2 w' HB1.out.1 HB1.out.2 HD1.out.1 HD1.out.2 HG.out HSGL.out (fun x hx => by
            simp only [List.mem_cons, List.not_mem_nil, or_false, or_self] at hx
            rw [hx]
            exact HR.out) (show 2 ≤ 140737488351232 by decide) (RAt.below HN9.out q.1))
          rw [hV] at HCD HCR
          rw [show ([⟨R, ((2 : Nat) : Int)⟩, ⟨R, ((2 : Nat) : Int)⟩] : List NodeN).length = 2 from rfl] at HCD HCR
          have HVV := Lib.hid (show ∀ w', (binOp .eql 4 (.bool V) (.bool V)).run Tryd.prog w' = .ok (.bool true) w' from fun w' => by cases V <;> kernel_rfl)
          have HXB := Lib.hid (fun (w' : World) (q : SS w9 w') => HX9.out.below q.1)
          obtain ⟨AV, hAV⟩ : ∃ A, autV ⟨x1, y1, g, SG⟩ = A := ⟨_, rfl⟩
          rw [hAV] at HCD HCR HXB HSA
          clear hV hAV
          go_wp2_with fail
          go_upto_region 18 with (fail)
          refine wp_region_class (fun w' => SS w9 w') (by kernel_rfl) (by kernel_rfl) (SS.start HK9.out) ?_
          repeat (first
            | go_big_quiet_skip
            | (go_big_quiet_want; refine quiet_load_cells 26 _ rfl gx AV 26 _ rfl HXB.out Tryd.underlying26 rfl HSA.out ?_; go_big_quiet_on; simp only [Act.put, List.setIfInBounds_toArray, List.set_cons_zero, List.set_cons_succ])
            | (go_big_quiet_want; refine quiet_bin .eql 4 _ _ _ rfl (.bool V) (.bool V) _ rfl rfl (fun _ => rfl) HVV.out ?_; go_big_quiet_on; simp only [Act.put, List.setIfInBounds_toArray, List.set_cons_zero, List.set_cons_succ])
            | go_big_quiet_step ((intro hs'; first
                | (go_at_call 20; exact (HCD.out _ hs').mono fun e w' h => ⟨h.1, hs'.next h.2⟩)
                | (go_at_call 21; exact (HCR.out _ hs').mono fun e w' h => ⟨h.1, hs'.next h.2⟩)
                | rfl)))
          refine wpQuiet_nil ?_
          intro w10 hs10
          have HB10 := Lib.hid (HB9.out.trans (hs10.1.mono HB9.out.size))
          clear hs10
          go_wp2_with fail
          go_ret
          exact ⟨rfl, HB10.out⟩
end Go.Proofs.YtpfhlhcnmeodbaaDoor.chainWords
namespace Go.Proofs.YtpfhlhcnmeodbaaDoor.chainWords
open Go.ChangeShapes Go.WideShapes Go.ChangeAt Go.RowKit
open Go.ChangeMaps (open_string shut_string)
set_option linter.unusedVariables false
theorem laid_met (os : Os) : laidMet Tryd.prog Rows.chainWordsRow.laid ((laidWorld os).forCall (fun _ _ => 0) ⟨#[], #[.agg #[.int .i64 0, .int .i64 0], .agg (nums .u8 zeroI).toArray, .agg #[.int .i64 0, .int .i64 0], .agg (nums .u8 zeroI).toArray], []⟩).memory :=
  laidMet_of_run' 8 (by kernel_rfl) (by kernel_rfl)
theorem reads (os : Os) {H : Type} (enc : TypeId × Value → H) : ∃ x, DataW.whole enc Tryd.prog ((laidWorld os).forCall (fun _ _ => 0) ⟨#[], #[.agg #[.int .i64 0, .int .i64 0], .agg (nums .u8 zeroI).toArray, .agg #[.int .i64 0, .int .i64 0], .agg (nums .u8 zeroI).toArray], []⟩).memory Tryd.f7.params.toList Rows.chainWordsSpec.vars false (#[.agg #[.int .i64 0, .int .i64 0], .agg (nums .u8 zeroI).toArray, .agg #[.int .i64 0, .int .i64 0], .agg (nums .u8 zeroI).toArray] : Array Value).toList 8 = some x :=
  ⟨([.agg [.lit (.int .i64 0), .lit (.int .i64 0)], .agg [.lit (.int .u8 0), .lit (.int .u8 0), .lit (.int .u8 0), .lit (.int .u8 0), .lit (.int .u8 0), .lit (.int .u8 0), .lit (.int .u8 0), .lit (.int .u8 0), .lit (.int .u8 0), .lit (.int .u8 0), .lit (.int .u8 0), .lit (.int .u8 0), .lit (.int .u8 0), .lit (.int .u8 0), .lit (.int .u8 0), .lit (.int .u8 0), .lit (.int .u8 0), .lit (.int .u8 0), .lit (.int .u8 0), .lit (.int .u8 0), .lit (.int .u8 0), .lit (.int .u8 0), .lit (.int .u8 0), .lit (.int .u8 0), .lit (.int .u8 0), .lit (.int .u8 0), .lit (.int .u8 0), .lit (.int .u8 0), .lit (.int .u8 0), .lit (.int .u8 0), .lit (.int .u8 0), .lit (.int .u8 0)], .agg [.lit (.int .i64 0), .lit (.int .i64 0)], .agg [.lit (.int .u8 0), .lit (.int .u8 0), .lit (.int .u8 0), .lit (.int .u8 0), .lit (.int .u8 0), .lit (.int .u8 0), .lit (.int .u8 0), .lit (.int .u8 0), .lit (.int .u8 0), .lit (.int .u8 0), .lit (.int .u8 0), .lit (.int .u8 0), .lit (.int .u8 0), .lit (.int .u8 0), .lit (.int .u8 0), .lit (.int .u8 0), .lit (.int .u8 0), .lit (.int .u8 0), .lit (.int .u8 0), .lit (.int .u8 0), .lit (.int .u8 0), .lit (.int .u8 0), .lit (.int .u8 0), .lit (.int .u8 0), .lit (.int .u8 0), .lit (.int .u8 0), .lit (.int .u8 0), .lit (.int .u8 0), .lit (.int .u8 0), .lit (.int .u8 0), .lit (.int .u8 0), .lit (.int .u8 0)]], [], []), by kernel_rfl⟩
set_option maxRecDepth 100000 in
theorem lifted (os : Os) (started : os.Started) (H : Type) (enc : TypeId × Value → H) (F : Stop.Interp) :
    ReturnsInHanded {} Tryd.checked os 7 .any ((OpenSpec.ofChange Rows.chainWordsSpec).preRow enc Tryd.prog Tryd.f7 Rows.chainWordsRow.domain false Rows.chainWordsRow.laid) (((OpenSpec.ofChange Rows.chainWordsSpec).at F).post enc Tryd.prog Tryd.f7 false true false false) := by
  obtain ⟨x, hx⟩ := reads os enc
  refine returnsInHanded_of_row (C := Tryd.checked) (s := OpenSpec.ofChange Rows.chainWordsSpec) law_own started (by kernel_rfl) Tryd.func7
    (witness_row_at (enc := enc) (C := Tryd.checked) false (laidWorld os) #[.agg #[.int .i64 0, .int .i64 0], .agg (nums .u8 zeroI).toArray, .agg #[.int .i64 0, .int .i64 0], .agg (nums .u8 zeroI).toArray] rfl (by kernel_rfl) (by kernel_rfl) (by kernel_rfl)
      (OpenSpec.preRow_of_cond 8 hx rfl (fun k hk => by cases hk) (by kernel_rfl) (laid_met os))) ?_
  intro W base args ds gs before hval0 hW hcnd _ hsz0 hL _ _
  have hk : KAt W := k_laid hL
  have hsz : (DataW.weightsEach Tryd.prog (Tryd.f7.params.toList ++ (OpenSpec.ofChange Rows.chainWordsSpec).bare.plain.varTypes Tryd.prog) (ds ++ gs)).all (· ≤ reachBytes) = true := hsz0
  have hval : ∀ (j : Nat) t v, Tryd.f7.params[j]? = some t → args[j]? = some v → Value.okWide Tryd.prog W .any base t v := hval0
  have hW' := hW
  obtain ⟨p, q, hA0, hV, rfl, hfz, hnd⟩ := hW
  have hA : DataW.TrodAll enc Tryd.prog W 0 (fun _ => true) true Tryd.f7.params.toList args.toList ds p := hA0
  rw [Tryd.params7] at hA hval hsz
  obtain ⟨v0, vs0, d0, ds0, p0, q0, hargs, rfl, rfl, h0, r0⟩ := trodAll_cons hA
  obtain ⟨v1, vs1, d1, ds1, p1, q1, rfl, rfl, rfl, h1, r1⟩ := trodAll_cons r0
  obtain ⟨v2, vs2, d2, ds2, p2, q2, rfl, rfl, rfl, h2, r2⟩ := trodAll_cons r1
  obtain ⟨v3, vs3, d3, ds3, p3, q3, rfl, rfl, rfl, h3, r3⟩ := trodAll_cons r2
  obtain ⟨rfl, rfl, rfl⟩ := trodAll_nil r3
  obtain rfl : args = #[v0, v1, v2, v3] := by cases args; simp_all
  obtain ⟨rfl, rfl⟩ := trodVars_none hV
  have k0 := h0
  have lt0 : ∀ x ∈ p0, x.block < W.heap.size := by obtain ⟨m, hm⟩ := k0; exact DataW.trod_lt m _ _ _ hm
  have z0 : ∀ n ∈ DataW.weights Tryd.prog 53 d0, n ≤ 140737488351232 := fun n hn => of_decide_eq_true (List.all_eq_true.1 hsz n (DataW.weights_mem_each (j := 0) (t := 53) rfl rfl n hn))
  obtain ⟨x0, y0, rfl, n0, m0⟩ := open_pair (hval 0 53 v0 rfl rfl) h0
  have k1 := h1
  have lt1 : ∀ x ∈ p1, x.block < W.heap.size := by obtain ⟨m, hm⟩ := k1; exact DataW.trod_lt m _ _ _ hm
  have z1 : ∀ n ∈ DataW.weights Tryd.prog 22 d1, n ≤ 140737488351232 := fun n hn => of_decide_eq_true (List.all_eq_true.1 hsz n (DataW.weights_mem_each (j := 1) (t := 22) rfl rfl n hn))
  obtain ⟨l1, rfl, n1⟩ := open_name Tryd.underlying22 Tryd.underlying5 (by kernel_rfl) (by kernel_rfl) (hval 1 22 v1 rfl rfl) h1
  have k2 := h2
  have lt2 : ∀ x ∈ p2, x.block < W.heap.size := by obtain ⟨m, hm⟩ := k2; exact DataW.trod_lt m _ _ _ hm
  have z2 : ∀ n ∈ DataW.weights Tryd.prog 53 d2, n ≤ 140737488351232 := fun n hn => of_decide_eq_true (List.all_eq_true.1 hsz n (DataW.weights_mem_each (j := 2) (t := 53) rfl rfl n hn))
  obtain ⟨x2, y2, rfl, n2, m2⟩ := open_pair (hval 2 53 v2 rfl rfl) h2
  have k3 := h3
  have lt3 : ∀ x ∈ p3, x.block < W.heap.size := by obtain ⟨m, hm⟩ := k3; exact DataW.trod_lt m _ _ _ hm
  have z3 : ∀ n ∈ DataW.weights Tryd.prog 22 d3, n ≤ 140737488351232 := fun n hn => of_decide_eq_true (List.all_eq_true.1 hsz n (DataW.weights_mem_each (j := 3) (t := 22) rfl rfl n hn))
  obtain ⟨l3, rfl, n3⟩ := open_name Tryd.underlying22 Tryd.underlying5 (by kernel_rfl) (by kernel_rfl) (hval 3 22 v3 rfl rfl) h3
  clear hA0 hval0
  refine (walk W hk x0 y0 n0 m0 l1 n1 x2 y2 n2 m2 l3 n3).mono fun e W' ⟨he, bel⟩ => ?_
  subst he
  exact ⟨_, rfl, _, _, _, [], _, [], hW', trodAll_mk1 (shut_bool Tryd.underlying4 _), (trodAll_cons_mk (Below.trod law_laidOut (by kernel_rfl) (of_decide_eq_true (by kernel_rfl)) k0 bel lt0) (trodAll_cons_mk (Below.trod law_laidOut (by kernel_rfl) (of_decide_eq_true (by kernel_rfl)) k1 bel lt1) (trodAll_cons_mk (Below.trod law_laidOut (by kernel_rfl) (of_decide_eq_true (by kernel_rfl)) k2 bel lt2) (trodAll_cons_mk (Below.trod law_laidOut (by kernel_rfl) (of_decide_eq_true (by kernel_rfl)) k3 bel lt3) trodAll_mk0)))), rfl, bel.frame _, fun h => by cases h⟩
theorem said : Rows.ChainWordsSaid :=
  OpenClaim.holds_of_cond 7 Tryd.f7 rfl rfl rfl rfl rfl rfl rfl ⟨rfl, rfl, rfl, rfl, rfl⟩ rfl rfl rfl rfl rfl (by kernel_rfl) Tryd.func7 (by kernel_rfl)
    (of_decide_eq_true (by kernel_rfl)) (by unfold Func.isWrapper; first | (rw [if_pos (by decide +kernel)]; kernel_rfl) | (rw [if_neg (by decide +kernel)]; exact ⟨rfl, rfl⟩))
    (fun os started H enc _ F => by rw [OpenClaim.pre_eq_preRow]; exact lifted os started H enc F)
theorem plain (f : FuncId) (fn : Func) (hf : Tryd.pinned.checked.prog.funcNamed "tribunal/tribunallaw16.ChainWords" = some f) (hfn : Tryd.pinned.checked.prog.funcs[f]? = some fn) :
    false = Tryd.pinned.checked.prog.looks [] ∧ ∀ (j : Nat) t, fn.params[j]? = some t → Tryd.pinned.checked.prog.wantsStandIn t = false := by
  obtain rfl : f = 7 := Option.some.inj ((show Tryd.prog.funcNamed "tribunal/tribunallaw16.ChainWords" = some 7 by kernel_rfl).symm.trans hf) |>.symm
  obtain rfl : fn = Tryd.f7 := (Option.some.inj (Tryd.func7.symm.trans hfn)).symm
  refine ⟨by kernel_rfl, fun j t ht => ?_⟩
  have hall : Tryd.f7.params.toList.all (fun t => !Tryd.prog.wantsStandIn t) = true := by kernel_rfl
  have hm : t ∈ Tryd.f7.params.toList := Array.mem_toList_iff.2 (Array.mem_of_getElem? ht)
  have h0 := List.all_eq_true.1 hall t hm
  have h1 : Tryd.prog.wantsStandIn t = false := by simpa using h0
  exact h1
theorem proved : Rows.ChainWordsCardSaid :=
  Claim7.holds_tied_plain_at .later [] _ _ _ _ said (fun _ h => by cases h) (by kernel_rfl) (fun _ h => by cases h) chainWords_row_tie rfl ⟨rfl, rfl⟩ (by kernel_rfl) rfl plain (by kernel_rfl)
#print axioms proved
end Go.Proofs.YtpfhlhcnmeodbaaDoor.chainWords
