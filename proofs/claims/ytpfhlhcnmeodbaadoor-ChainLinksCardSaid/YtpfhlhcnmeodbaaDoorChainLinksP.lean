/-
  The law ChainLinks: for every input it answers true, and its arguments read as they did. Condition: the round constants' table lies as the program's text lays it (the card ties it).
-/
import Derived.BigQuiet
import Derived.BigRegion
import Derived.ChangeAlike
import Derived.Deep.Cut
import Derived.Deep.MidRow
import Derived.Deep.QuietTactic
import Derived.Deep.RegionWith
import Derived.Deep.Slices
import Derived.Great.BuildSlice
import Derived.Laws.CopyOwn
import Derived.Laws.DeepStrings4
import Derived.Laws.IdiomCopy
import Derived.Laws.Rows
import Derived.Laws.StructEq
import Derived.Lib.BitFns
import Derived.Lib.BufferWrite
import Derived.Lib.Builder
import Derived.Lib.Hide
import Derived.Maps.AppendAt
import Derived.OpenShut
import Derived.RegionTactic
import Derived.StillTailTactics
import Derived.Stop.BytesEq
import Derived.Test.YtpfhlhcnmeodbaaDoorChecked
import Derived.WalkKit
import Derived.Test.YtpfhlhcnmeodbaaDoorJ01
import Derived.Test.YtpfhlhcnmeodbaaDoorJ02
import Derived.Test.YtpfhlhcnmeodbaaDoorJ03
import Derived.Test.YtpfhlhcnmeodbaaDoorJ04
import Derived.Test.YtpfhlhcnmeodbaaDoorJ05
import Derived.Test.YtpfhlhcnmeodbaaDoorJ06
import Derived.Test.YtpfhlhcnmeodbaaDoorJ07
import Derived.Test.YtpfhlhcnmeodbaaDoorJ08
import Derived.Test.YtpfhlhcnmeodbaaDoorJ09
import Derived.Test.YtpfhlhcnmeodbaaDoorJ10
namespace Go.Proofs.YtpfhlhcnmeodbaaDoor
theorem val_nil : val [] = 0 := rfl
theorem dig_val : ∀ (l : List UInt8), (∀ h : l ≠ [], l.head h ≠ 0) → dig (val l) = l := by
  intro l
  induction hl : l.length using Nat.strongRecOn generalizing l with
  | ind n ih =>
    intro hh
    rcases List.eq_nil_or_concat l with rfl | ⟨t, d, rfl⟩
    · rw [val_nil, dig_zero]
    · rw [List.concat_eq_append] at hh hl ⊢
      have hd := d.toNat_lt
      by_cases ht : t = []
      · subst ht
        simp only [List.nil_append] at hh ⊢
        have h0 : d ≠ 0 := by simpa using hh (by simp)
        have h1 : d.toNat ≠ 0 := fun e => h0 (by rw [← UInt8.toNat_inj]; simpa using e)
        have h2 : val [d] = d.toNat := by simp [val]
        rw [h2, dig_pos h1, show d.toNat / 256 = 0 by omega, dig_zero, show d.toNat % 256 = d.toNat by omega]; simp
      · have ih1 := ih t.length (by rw [← hl]; simp) t rfl (fun h => by
          have := hh (by simp); rwa [List.head_append_of_ne_nil h] at this)
        have hv : val t ≠ 0 := fun e => by rw [e, dig_zero] at ih1; exact ht ih1.symm
        rw [val_snoc, dig_pos (by omega), show (val t * 256 + d.toNat) / 256 = val t by omega, ih1, show (val t * 256 + d.toNat) % 256 = d.toNat by omega]; simp
theorem dig_head (n : Nat) : ∀ h : dig n ≠ [], (dig n).head h ≠ 0 := by
  induction n using Nat.strongRecOn with
  | ind n ih =>
    intro h
    by_cases h0 : n = 0
    · subst h0; exact absurd dig_zero h
    · have e := dig_pos h0
      by_cases h1 : n / 256 = 0
      · have e2 : dig n = [UInt8.ofNat (n % 256)] := by rw [e, h1, dig_zero]; rfl
        simp only [e2, List.head_cons]
        intro e3
        have : (UInt8.ofNat (n % 256)).toNat = 0 := by rw [e3]; rfl
        rw [toNat_ofNat_mod] at this; omega
      · have hn : dig (n / 256) ≠ [] := fun e3 => by rw [dig_pos h1] at e3; simp at e3
        have := ih (n / 256) (by omega) hn
        simp only [e, List.head_append_of_ne_nil hn]; exact this
theorem takeNum_some {s : List UInt8} {n : Nat} {r : List UInt8} (h : takeNum s = some (n, r)) : s = numB n ++ r ∧ n < 9223372036854775808 := by
  cases s with
  | nil => cases h
  | cons k t =>
    simp only [takeNum] at h
    split at h
    · rename_i hc
      simp only [Option.some.injEq, Prod.mk.injEq] at h
      obtain ⟨rfl, rfl⟩ := h
      refine ⟨?_, hc.2.1⟩
      rw [hc.2.2, List.cons_append, List.take_append_drop]
    · cases h
theorem takeNum_lt {s : List UInt8} {n : Nat} {r : List UInt8} (h : takeNum s = some (n, r)) : n < 9223372036854775808 := (takeNum_some h).2
theorem takeNum_len {s : List UInt8} {n : Nat} {r : List UInt8} (h : takeNum s = some (n, r)) : r.length < s.length := by
  rw [(takeNum_some h).1]; have := numB_pos n; simp; omega
theorem takeText_some {s t r : List UInt8} (h : takeText s = some (t, r)) : s = textB t ++ r := by
  unfold takeText at h
  split at h
  · cases h
  · rename_i n q hq
    split at h
    · rename_i hn
      simp only [Option.some.injEq, Prod.mk.injEq] at h
      obtain ⟨rfl, rfl⟩ := h
      have := (takeNum_some hq).1
      rw [this, textB, List.length_take, show min n q.length = n by omega, List.append_assoc, List.take_append_drop]
    · cases h
theorem takeTexts_some : ∀ (k : Nat) (s : List UInt8) (l : List (List UInt8)) (r : List UInt8), takeTexts k s = some (l, r) → s = textsB l ++ r ∧ l.length = k := by
  intro k
  induction k with
  | zero => intro s l r h; simp only [takeTexts, Option.some.injEq, Prod.mk.injEq] at h; obtain ⟨rfl, rfl⟩ := h; simp [textsB]
  | succ k ih =>
    intro s l r h
    simp only [takeTexts] at h
    split at h
    · cases h
    · rename_i t q hq
      split at h
      · cases h
      · rename_i l' q' hq'
        simp only [Option.some.injEq, Prod.mk.injEq] at h
        obtain ⟨rfl, rfl⟩ := h
        obtain ⟨e1, e2⟩ := ih _ _ _ hq'
        rw [takeText_some hq, e1, textsB_cons, List.append_assoc]
        exact ⟨rfl, by simp [e2]⟩
theorem takeTexts_succ : ∀ (k : Nat) (s : List UInt8), takeTexts (k + 1) s = match takeTexts k s with
    | none => none
    | some (l, r) => match takeText r with
      | none => none
      | some (t, q) => some (l ++ [t], q) := by
  intro k
  induction k with
  | zero => intro s; simp only [takeTexts]; cases takeText s <;> rfl
  | succ k ih =>
    intro s
    rw [takeTexts]
    cases h1 : takeText s with
    | none => simp [takeTexts, h1]
    | some p =>
      obtain ⟨t, r⟩ := p
      simp only [ih r]
      simp only [takeTexts, h1]
      cases h2 : takeTexts k r with
      | none => rfl
      | some p2 =>
        obtain ⟨l, q⟩ := p2
        simp only
        cases h3 : takeText q with
        | none => rfl
        | some p3 => obtain ⟨t3, q3⟩ := p3; rfl
theorem takeTexts_none_mono {k : Nat} {s : List UInt8} (h : takeTexts k s = none) : ∀ m, k ≤ m → takeTexts m s = none := by
  intro m hm
  induction m with
  | zero => have : k = 0 := by omega
            subst this; exact h
  | succ m ih =>
    by_cases e : k = m + 1
    · subst e; exact h
    · rw [takeTexts_succ, ih (by omega)]
theorem takeList_some {s : List UInt8} {l : List (List UInt8)} {r : List UInt8} (h : takeList s = some (l, r)) : s = listB l ++ r ∧ l.length ≤ 4096 := by
  unfold takeList at h
  split at h
  · cases h
  · rename_i n q hq
    split at h
    · rename_i hn
      obtain ⟨e1, e2⟩ := takeTexts_some _ _ _ _ h
      rw [(takeNum_some hq).1, e1, listB, e2, List.append_assoc]
      exact ⟨rfl, by omega⟩
    · cases h
theorem takeNum_big {k : UInt8} (t : List UInt8) (h : 8 < k.toNat) : takeNum (k :: t) = none := by
  simp only [takeNum]
  rw [if_neg]
  rintro ⟨h1, h2, h3⟩
  have h4 := dig_length_8 h2
  simp only [numB, List.cons.injEq] at h3
  have h5 := congrArg List.length h3.2
  simp at h5
  omega
theorem takeNum_short {k : UInt8} {t : List UInt8} (h : t.length < k.toNat) : takeNum (k :: t) = none := by
  simp only [takeNum]
  rw [if_neg]
  rintro ⟨h1, _, _⟩
  omega
theorem val_append_ge (a b : List UInt8) (h : b ≠ []) : val a * 256 ≤ val (a ++ b) := by
  rcases List.eq_nil_or_concat b with rfl | ⟨t, d, rfl⟩
  · exact absurd rfl h
  · clear h
    rw [List.concat_eq_append]
    have key : ∀ (t : List UInt8), val a ≤ val (a ++ t) := by
      intro t
      induction hl : t.length using Nat.strongRecOn generalizing t with
      | ind n ih =>
        rcases List.eq_nil_or_concat t with rfl | ⟨t', d', rfl⟩
        · simp
        · rw [List.concat_eq_append, ← List.append_assoc, val_snoc]
          have := ih t'.length (by rw [← hl]; simp) t' rfl
          omega
    rw [← List.append_assoc, val_snoc]
    have := key t
    omega
theorem takeNum_over {k : UInt8} {t : List UInt8} {q : Nat} (hk : k.toNat ≤ t.length) (hq : q < k.toNat) (h : 36028797018963968 ≤ val (t.take q)) : takeNum (k :: t) = none := by
  simp only [takeNum]
  rw [if_neg]
  rintro ⟨_, h2, _⟩
  have e : t.take k.toNat = t.take q ++ (t.take k.toNat).drop q := by
    have := List.take_append_drop q (t.take k.toNat)
    rw [List.take_take, show min q k.toNat = q by omega] at this
    exact this.symm
  have h3 := val_append_ge (t.take q) ((t.take k.toNat).drop q) (by
    intro e2
    have := congrArg List.length e2
    simp at this
    omega)
  rw [← e] at h3
  omega
theorem takeNum_zero {k : UInt8} {t : List UInt8} (hk : k.toNat ≤ t.length) (h0 : 0 < k.toNat) (hz : t[0]'(by omega) = 0) : takeNum (k :: t) = none := by
  simp only [takeNum]
  rw [if_neg]
  rintro ⟨_, h2, h3⟩
  simp only [numB, List.cons.injEq] at h3
  have hne : dig (val (t.take k.toNat)) ≠ [] := by
    rw [h3.2]; intro e
    have h7 : (t.take k.toNat).length = 0 := by rw [e]; rfl
    rw [List.length_take] at h7
    omega
  have := dig_head _ hne
  apply this
  have e2 : ∀ (l : List UInt8) (hl : l ≠ []) (m : List UInt8) (hm : m ≠ []), l = m → l.head hl = m.head hm := by intro l hl m hm e; subst e; rfl
  rw [e2 _ hne (t.take k.toNat) (by rw [← h3.2]; exact hne) h3.2]
  rw [List.head_take, List.head_eq_getElem]
  exact hz
theorem takeNum_good {k : UInt8} {t : List UInt8} (hk : k.toNat ≤ t.length) (hv : val (t.take k.toNat) < 9223372036854775808) (hz : ∀ h : 0 < k.toNat, t[0]'(by omega) ≠ 0) : takeNum (k :: t) = some (val (t.take k.toNat), t.drop k.toNat) := by
  simp only [takeNum]
  rw [if_pos]
  refine ⟨hk, hv, ?_⟩
  have e : dig (val (t.take k.toNat)) = t.take k.toNat := by
    apply dig_val
    intro hne
    have h0 : 0 < k.toNat := by
      rcases Nat.eq_zero_or_pos k.toNat with h | h
      · rw [h] at hne; simp at hne
      · exact h
    rw [List.head_take, List.head_eq_getElem]
    exact hz h0
  rw [numB, e]
  congr 1
  rw [List.length_take, show min k.toNat t.length = k.toNat by omega]
  simp
theorem takeTexts_len {k : Nat} {s : List UInt8} {l : List (List UInt8)} {r : List UInt8} (h : takeTexts k s = some (l, r)) : r.length ≤ s.length := by
  have := (takeTexts_some _ _ _ _ h).1
  rw [this]; simp
theorem splitB_some {s : List UInt8} {l : List (List UInt8)} (h : splitB s = some l) : listB l = s := by
  unfold splitB at h
  split at h
  · cases h
  · cases ht : takeList s with
    | none => rw [ht] at h; cases h
    | some p =>
      obtain ⟨l', r⟩ := p
      rw [ht] at h
      cases r with
      | nil =>
        have e : l' = l := by simpa using h
        subst e
        have := (takeList_some ht).1
        rw [List.append_nil] at this
        exact this.symm
      | cons => cases h
end Go.Proofs.YtpfhlhcnmeodbaaDoor
namespace Go.Proofs.YtpfhlhcnmeodbaaDoor
open Go.RowKit
theorem extract_head (s : List UInt8) (n : Nat) : (⟨s.toArray⟩ : ByteArray).extract 0 n = ⟨(s.take n).toArray⟩ := by
  apply ByteArray.ext
  simp [ByteArray.data_extract]
theorem strs_snoc (l : List (List UInt8)) (t : List UInt8) : strs (l ++ [t]) = strs l ++ [.string ⟨t.toArray⟩] := by simp [strs]
theorem OwnS.mono {B B' : Nat} {v : Value} {l : List (List UInt8)} {w : World} (h : OwnS B v l w) (hB : B' ≤ B) : OwnS B' v l w := by
  refine ⟨h.1, ?_⟩
  rcases h.2 with h0 | ⟨g, cap, cur, hv, hg, r⟩
  · exact Or.inl h0
  · exact Or.inr ⟨g, cap, cur, hv, by omega, r⟩
end Go.Proofs.YtpfhlhcnmeodbaaDoor
namespace Go.Proofs.YtpfhlhcnmeodbaaDoor
open Go.RowKit
theorem txt_byteNs (s : List UInt8) : txt (byteNs s) = s := by
  induction s with
  | nil => rfl
  | cons b s ih =>
    rw [byteNs, List.map_cons, txt, List.map_cons, show UInt8.ofNat b.toNat = b by simp]
    exact congrArg _ ih
end Go.Proofs.YtpfhlhcnmeodbaaDoor
namespace Go.Proofs.YtpfhlhcnmeodbaaDoor
open Go.RowKit
theorem allNum_some {s : List UInt8} {n : Nat} (h : allNum s = some n) : numB n = s ∧ n < 9223372036854775808 := by
  unfold allNum at h
  split at h
  · rename_i m hm
    simp only [Option.some.injEq] at h
    subst h
    have := takeNum_some hm
    rw [List.append_nil] at this
    exact ⟨this.1.symm, this.2⟩
  · cases h
end Go.Proofs.YtpfhlhcnmeodbaaDoor
namespace Go.Proofs.YtpfhlhcnmeodbaaDoor
open Go.RowKit
theorem numI_some {s : List UInt8} {n : Int} (h : numI s = n) (h0 : 0 ≤ n) : numB n.toNat = s ∧ n < 9223372036854775808 := by
  unfold numI at h
  split at h
  · rename_i m hm
    obtain ⟨h1, h2⟩ := allNum_some hm
    subst h
    exact ⟨by rw [Int.toNat_natCast]; exact h1, by omega⟩
  · omega
end Go.Proofs.YtpfhlhcnmeodbaaDoor
namespace Go.Proofs.YtpfhlhcnmeodbaaDoor
open Go.RowKit
def wordB (n i : Int) (h : List Nat) : List UInt8 := listB [[119, 111, 114, 100], numB n.toNat, numB i.toNat, txt h]
def authB (a : AuthN) : List UInt8 := listB [numB a.node.toNat, numB a.seq.toNat, txt a.hash, a.sig]
def readA (s : List UInt8) : Option AuthN := match splitB s with
  | some [a, b, h, g] => if h.length = 32 ∧ g.length ≤ 1024 ∧ 0 ≤ numI a ∧ numI a ≤ 4 ∧ 0 ≤ numI b then some ⟨numI a, numI b, byteNs h, g⟩ else none
  | _ => none
theorem readA_some {s : List UInt8} {a : AuthN} (h : readA s = some a) : authB a = s ∧ IdOk a.hash ∧ a.sig.length ≤ 1024 ∧ 0 ≤ a.node ∧ a.node ≤ 4 ∧ 0 ≤ a.seq ∧ a.seq < 9223372036854775808 := by
  unfold readA at h
  split at h
  · rename_i x y r g hs
    split at h
    · rename_i hc
      simp only [Option.some.injEq] at h
      subst h
      obtain ⟨h1, h2, h3, h4, h5⟩ := hc
      obtain ⟨k1, _⟩ := numI_some (s := x) rfl h3
      obtain ⟨k2, k3⟩ := numI_some (s := y) rfl h5
      refine ⟨?_, ⟨by show (byteNs r).length = 32; rw [byteNs_len, h1], byteNs_lt _⟩, h2, h3, h4, h5, k3⟩
      rw [authB]
      simp only [txt_byteNs, k1, k2]
      exact splitB_some hs
    · cases h
  · cases h
theorem wordB_len {n i : Int} {h : List Nat} (hn : n ≤ 9223372036854775807) (hi : i ≤ 9223372036854775807) (hh : IdOk h) : (wordB n i h).length ≤ 200 := by
  rw [wordB, listB_length]
  have e2 : (textsB []).length = 0 := rfl
  have h1 : (txt h).length = 32 := by rw [txt_len]; exact hh.1
  have h2 := numB_len9 (n := n.toNat) (by omega)
  have h3 := numB_len9 (n := i.toNat) (by omega)
  have a0 := numB_len9 (n := 4) (by decide)
  have a1 := textB_le9 (t := [119, 111, 114, 100]) (by decide)
  have a2 := textB_le9 (t := numB n.toNat) (by omega)
  have a3 := textB_le9 (t := numB i.toNat) (by omega)
  have a4 := textB_le9 (t := txt h) (by omega)
  simp only [List.length_cons, List.length_nil, Nat.zero_add, Nat.reduceAdd] at a1
  simp only [List.length_cons, List.length_nil, Nat.zero_add, Nat.reduceAdd, textsB_cons, List.length_append, e2]
  omega
theorem authB_len {a : AuthN} (hn : a.node ≤ 9223372036854775807) (hi : a.seq ≤ 9223372036854775807) (hh : IdOk a.hash) (hs : a.sig.length ≤ 1000000) : (authB a).length ≤ 1000200 := by
  rw [authB, listB_length]
  have e2 : (textsB []).length = 0 := rfl
  have h1 : (txt a.hash).length = 32 := by rw [txt_len]; exact hh.1
  have h2 := numB_len9 (n := a.node.toNat) (by omega)
  have h3 := numB_len9 (n := a.seq.toNat) (by omega)
  have a0 := numB_len9 (n := 4) (by decide)
  have a1 := textB_le9 (t := numB a.node.toNat) (by omega)
  have a2 := textB_le9 (t := numB a.seq.toNat) (by omega)
  have a3 := textB_le9 (t := txt a.hash) (by omega)
  have a4 := textB_le9 (t := a.sig) (by omega)
  simp only [List.length_cons, List.length_nil, Nat.zero_add, Nat.reduceAdd, textsB_cons, List.length_append, e2]
  omega
end Go.Proofs.YtpfhlhcnmeodbaaDoor
namespace Go.Proofs.YtpfhlhcnmeodbaaDoor
open Go.RowKit Go.ChangeShapes Go.WideShapes
theorem Ids.one {x : List Nat} (h : x.length = 32) (k : ∀ y ∈ x, y < 256) : Ids [x] := fun z hz => by
  obtain rfl := List.mem_singleton.1 hz
  exact ⟨h, k⟩
theorem flatI_append (L M : List (List Nat)) : flatI (L ++ M) = flatI L ++ flatI M := by simp [flatI]
theorem flatI_all (L : List (List Nat)) : ∀ u ∈ flatI L, u.oneCell' = true := by
  intro u hu
  simp only [flatI, List.mem_flatMap] at hu
  obtain ⟨x, _, hx⟩ := hu
  exact nums_one .u8 x u hx
theorem OwnI.nil (B : Nat) (e : TypeId) (w : World) : OwnI B e (.slice none 0 0) [] w := World.ownsRow_nil _ _ _ _
theorem wpList_append_ids {P : Program} {w : World} {ops : Array Oper} {rest : List Oper} {o : Oper} {a : Act} {Q : Exit → Act → World → Prop} (hgd : o.guard = none) (s x : Operand) (t e : TypeId)
    (ho : o.op = .call { callee := .builtin .append, args := #[s, x], argTypes := #[t, t] })
    (B : Nat) (z : Value) (hzs : z.cells.size = 32) (ht : P.underlying t = some (.slice e)) (hinfo : (P.info? e).map (fun i => (i.zero, i.size, i.bytes)) = some (some z, 32, 32))
    (v : Value) (L M : List (List Nat)) (hM : Ids M) (ad : Addr) (n c : Nat) (hn : n = M.length) (hs : a.eval s = v) (hown : OwnI B e v L w) (hx : a.eval x = .slice (some ad) n c) (hnews : ∀ j u, (flatI M)[j]? = some u → w.cell? (ad.add j) = some u)
    (h63 : L.length + M.length ≤ 4398046511104) (hB : B ≤ w.heap.size)
    (h : ∀ v' w', Hid (OwnI B e v' (L ++ M) w') → Hid (Below B w w') → wpList P ops Q rest (a.put o.dst v') w') : wpList P ops Q (o :: rest) a w := by
  obtain ⟨i, hi, hz0, hz1, hz2⟩ := info_parts hinfo
  subst hn
  refine wpList_append_own_at w hgd s x _ ho B e i z 32 32 ht hi hz0 hz1 hz2 hzs (by decide) v L.length (flatI L) hs hown ad M.length c (flatI M) hx (flatI_len hM) hnews (flatI_all M) (by unfold maxLen; omega) (by omega) hB ?_
  intro v' w' h2 hg _ _
  refine h v' w' ?_ ((Below.refl B w).grown hg hB (fun k hk => (World.ownsRow.lt hown k hk).1))
  show w'.ownsRow B e 32 v' (L ++ M).length (flatI (L ++ M))
  rw [List.length_append, flatI_append]
  exact h2
theorem wpList_build_id {P : Program} {ops : Array Oper} {rest : List Oper} {o : Oper} {a : Act} {w : World} {Q : Exit → Act → World → Prop} (hg : o.guard = none) (t e : TypeId) (x : Operand) (ho : o.op = .buildSlice t 1 #[(0, x)])
    (l : List Nat) (hx : a.eval x = .agg (nums .u8 l).toArray) (hl : l.length = 32) (ht : P.underlying t = some (.slice e)) (hinfo : (P.info? e).map (fun i => (i.zero, i.size, i.bytes)) = some (some (.agg (nums .u8 (List.replicate 32 0)).toArray), 32, 32))
    (h : ∀ w', Hid (Blk w.heap.size e .u8 l w') → Hid (Below w.heap.size w w') → wpList P ops Q rest (a.put o.dst (.slice (some ⟨w.heap.size, 0, none⟩) 1 1)) w') : wpList P ops Q (o :: rest) a w := by
  obtain ⟨ie, hi, hz0, hz1, _⟩ := info_parts hinfo
  refine wpList_buildSlice hg t e 1 #[(0, x)] ho (nums .u8 l).toArray ie _ ht hi hz0 (by rw [hz1]; decide) (by rw [hz1]; decide) ?_ (h _ (heap_alloc_new w _) ((Below.refl _ w).alloc (Nat.le_refl _) _))
  rw [hz1]
  have h1 := Great.fill_whole (s := 32) (by decide) [Value.agg (nums .u8 l).toArray] ((Array.range (1 * 32)).map ((Value.agg (nums .u8 (List.replicate 32 0)).toArray).cells[· % (Value.agg (nums .u8 (List.replicate 32 0)).toArray).cells.size]!))
    (fun v hv => by obtain rfl := List.mem_singleton.1 hv; show (nums .u8 l).toArray.size = 32; rw [List.size_toArray, nums_len, hl]) (by simp)
  have e1 : ((#[(0, x)] : Array (Nat × Operand)).map fun (i, x) => (i, a.eval x)).toList = ([Value.agg (nums .u8 l).toArray].zipIdx 0).map fun x => (x.2, x.1) := by
    simp [hx, List.zipIdx_cons]
  have e2 : ([Value.agg (nums .u8 l).toArray].flatMap fun v => v.cells.toList).toArray = (nums .u8 l).toArray := by
    rw [List.flatMap_cons, List.flatMap_nil, List.append_nil]
    rfl
  rw [e1, h1, e2]
end Go.Proofs.YtpfhlhcnmeodbaaDoor
namespace Go.Proofs.YtpfhlhcnmeodbaaDoor
open Go.RowKit
section
variable {P : Program} {o : Oper} {a : Act} {w : World} {K : Act → World → Prop} {Q : Exit → Act → World → Prop}
theorem op_build (t : TypeId) (parts : Array (Nat × Operand)) (ho : o.op = .build t parts) (vs : List (Nat × Value)) (cells : Array Value) (hv : (parts.map fun (i, x) => (i, a.eval x)) = vs.toArray)
    (hc : ∀ w, (Instr.build t vs.toArray).run P w = .ok (.agg cells) w) (h : K (a.put o.dst (.agg cells)) w) : OpWp P o a w K Q := by
  refine ⟨?_⟩
  unfold Oper.wp execOp
  simp only [ho, hv, Sem.run_bind, Sem.run_pure, hc, Result.andThen_ok]
  exact h
end
end Go.Proofs.YtpfhlhcnmeodbaaDoor
namespace Go.Proofs.YtpfhlhcnmeodbaaDoor
open Go.RowKit
theorem op_build_val {P : Program} {o : Oper} {a : Act} {w : World} {K : Act → World → Prop} {Q : Exit → Act → World → Prop} (t : TypeId) (parts : Array (Nat × Operand)) (ho : o.op = .build t parts)
    (vals : List (Nat × Value)) (cs : Array Value) (hp : (parts.map fun (i, x) => (i, a.eval x)) = vals.toArray) (hb : P.built t vals = some cs) (hk : K (a.put o.dst (.agg cs)) w) : OpWp P o a w K Q := by
  refine ⟨?_⟩
  unfold Oper.wp execOp
  simp only [ho, Sem.run_bind, run_build_val t parts vals cs hp hb, Result.andThen_ok]
  exact hk
def NewC (s : Nat → Bool) (V : Nat → Value) (B i : Nat) (t : TypeId) (cs : Array Value) (w : World) : Prop := s i = true → ∃ g, V i = .pointer (some ⟨g, 0, none⟩) ∧ B ≤ g ∧ Cells g t cs w
theorem NewC.none {V : Nat → Value} {B i : Nat} {t : TypeId} {cs : Array Value} {w : World} : NewC (fun _ => false) V B i t cs w := fun h => by cases h
theorem NewC.ne {s : Nat → Bool} {V : Nat → Value} {B i j : Nat} {t : TypeId} {cs : Array Value} {w w' : World} {u : Value} (h : NewC s V B j t cs w) (hne : j ≠ i) (hb : Below w.heap.size w w') : NewC (fun j => s j || j == i) (upd V i u) B j t cs w' := fun hs => by
  obtain ⟨g, e, hg, hk⟩ := h (seen_ne hne hs)
  exact ⟨g, by rw [upd_ne V u hne]; exact e, hg, hk.below hb⟩
theorem NewC.same {s : Nat → Bool} {V : Nat → Value} {B i : Nat} {t : TypeId} {cs : Array Value} {w : World} (hB : B ≤ w.heap.size) : NewC (fun j => s j || j == i) (upd V i (.pointer (some ⟨w.heap.size, 0, Option.none⟩))) B i t cs (w.alloc (.cells cs t)) :=
  fun _ => ⟨w.heap.size, upd_same _ _ _, hB, heap_alloc_new w _⟩
end Go.Proofs.YtpfhlhcnmeodbaaDoor
namespace Go.Proofs.YtpfhlhcnmeodbaaDoor
open Go.RowKit
def layV (xs : List Value) : Nat → List Value → List Value
  | _, [] => xs
  | o, v :: r => layV (xs.set o v) (o + 1) r
theorem But.cells {b : Nat} {w : World} : ∀ (vs : List Value) (o : Nat) (w' : World), But b w w' → But b w (w'.setCells b o vs)
  | [], _, _, h => h
  | v :: r, o, _, h => But.cells r (o + 1) _ (h.setCell o v)
end Go.Proofs.YtpfhlhcnmeodbaaDoor
namespace Go.Proofs.YtpfhlhcnmeodbaaDoor
open Go.RowKit Go.BigFrame
section
variable (a : EntN) (ha : a.Ok)
include ha
omit ha in
end
theorem layV_mid : ∀ (vs xs ys zs : List Value), vs.length = ys.length → layV (xs ++ (ys ++ zs)) xs.length vs = xs ++ (vs ++ zs)
  | [], xs, ys, zs, h => by
    obtain rfl : ys = [] := List.length_eq_zero_iff.1 h.symm
    rfl
  | v :: r, xs, ys, zs, h => by
    cases ys with
    | nil => cases h
    | cons y ys =>
      have ih := layV_mid r (xs ++ [v]) ys zs (by simpa using h)
      rw [List.length_append, List.length_singleton] at ih
      rw [layV, List.cons_append, List.set_append_right _ _ (Nat.le_refl _), Nat.sub_self, List.set_cons_zero]
      simpa using ih
end Go.Proofs.YtpfhlhcnmeodbaaDoor
namespace Go.Proofs.YtpfhlhcnmeodbaaDoor
open Go.RowKit Go.BigFrame
theorem aut_at {b o : Nat} {a : AuthN} {w : World} (hok : IdOk a.hash) (h : w.rangeAt b o (autL a)) :
    w.cell? ⟨b, o, none⟩ = some (.int .i64 a.node) ∧ w.cell? ⟨b, o + 1, none⟩ = some (.int .i64 a.seq) ∧ w.rangeAt b (o + 2) (nums .u8 a.hash) ∧ w.cell? ⟨b, o + 34, none⟩ = some (.string ⟨a.sig.toArray⟩) := by
  obtain ⟨h0, h⟩ := rangeAt_app h
  obtain ⟨h1, h⟩ := rangeAt_app h
  simp only [List.length_cons, List.length_nil, nums_len, hok.1, Nat.zero_add, Nat.reduceAdd, Nat.add_assoc] at h1 h
  exact ⟨h0 0 _ rfl, h0 1 _ rfl, h1, h 0 _ rfl⟩
theorem aut_range {g : Nat} {t : TypeId} {a : AuthN} {w : World} (h : Cells g t (autV a) w) : w.rangeAt g 0 (autL a) := fun j v hj => by
  rw [Nat.zero_add, h.at, autV, List.getElem?_toArray]
  exact hj
theorem aut_cells {g : Nat} {t : TypeId} {a : AuthN} {w : World} (hok : IdOk a.hash) (h : Cells g t (autV a) w) :
    w.cell? ⟨g, 0, none⟩ = some (.int .i64 a.node) ∧ w.cell? ⟨g, 1, none⟩ = some (.int .i64 a.seq) ∧ w.rangeAt g 2 (nums .u8 a.hash) ∧ w.cell? ⟨g, 34, none⟩ = some (.string ⟨a.sig.toArray⟩) := by
  have k := aut_at hok (aut_range h)
  simp only [Nat.zero_add] at k
  exact k
theorem fill_aut (i off size : Nat) (v : Value) (rest : List (Nat × Value)) (a b : AuthN) (xs ys zs vs : List Value) (hp : placeA i = some (off, size)) (ha : autL a = xs ++ (ys ++ zs)) (hb : autL b = xs ++ (vs ++ zs)) (hv : v.cells.toList = vs) (h1 : vs.length = size) (h2 : ys.length = size) (h3 : xs.length = off) :
    Instr.fill placeA (autV a) ((i, v) :: rest) = Instr.fill placeA (autV b) rest := by
  rw [autV, autV, ha, hb]
  exact fill_lay placeA i off size v rest xs ys zs vs hp hv h1 h2 h3
section
variable (a : AuthN) (rest : List (Nat × Value))
theorem fillA_node (k : Int) : Instr.fill placeA (autV a) ((0, .int .i64 k) :: rest) = Instr.fill placeA (autV { a with node := k }) rest :=
  fill_aut 0 0 1 _ rest a { a with node := k } [] [.int .i64 a.node] ([.int .i64 a.seq] ++ (nums .u8 a.hash ++ [.string ⟨a.sig.toArray⟩])) [.int .i64 k] rfl (by simp [autL]) (by simp [autL]) rfl rfl rfl rfl
theorem fillA_seq (k : Int) : Instr.fill placeA (autV a) ((1, .int .i64 k) :: rest) = Instr.fill placeA (autV { a with seq := k }) rest :=
  fill_aut 1 1 1 _ rest a { a with seq := k } [.int .i64 a.node] [.int .i64 a.seq] (nums .u8 a.hash ++ [.string ⟨a.sig.toArray⟩]) [.int .i64 k] rfl (by simp [autL]) (by simp [autL]) rfl rfl rfl rfl
theorem fillA_sig (ha : IdOk a.hash) (s : List UInt8) : Instr.fill placeA (autV a) ((3, .string ⟨s.toArray⟩) :: rest) = Instr.fill placeA (autV { a with sig := s }) rest :=
  fill_aut 3 34 1 _ rest a { a with sig := s } ([.int .i64 a.node, .int .i64 a.seq] ++ nums .u8 a.hash) [.string ⟨a.sig.toArray⟩] [] [.string ⟨s.toArray⟩] rfl (by simp [autL]) (by simp [autL]) rfl rfl rfl (by simp [nums_len, ha.1])
end
theorem built_aut3 (n i : Int) (s : List UInt8) : Tryd.prog.built 26 [(0, .int .i64 n), (1, .int .i64 i), (3, .string ⟨s.toArray⟩)] = some (autV ⟨n, i, zeroI, s⟩) := by
  rw [aut_fill, fillA_node, fillA_seq]
  exact (fillA_sig ⟨n, i, zeroI, []⟩ [] zeroI_ok s).trans (by rw [fill_end])
theorem setA_hash (a : AuthN) (ha : IdOk a.hash) (i x : Nat) (hi : i < 32) : (autV a).setIfInBounds (2 + i) (.int .u8 (x : Int)) = autV { a with hash := a.hash.set i x } := by
  rw [autV, autV, List.setIfInBounds_toArray, autL, autL, List.set_append_right _ _ (by simp), show 2 + i - [Value.int .i64 a.node, .int .i64 a.seq].length = i by simp, List.set_append_left _ _ (by rw [nums_len, ha.1]; exact hi), nums_set]
theorem aut_fields : (Tryd.prog.fieldsOf 26).toList.map (fun f => (f.name, f.type, f.offset)) = [("Node", 3, 0), ("Seq", 3, 1), ("Hash", 24, 2), ("Sig", 9, 34)] := by kernel_rfl
theorem aut_part (a : AuthN) (ha : IdOk a.hash) (w : World) : (Go.part 3 (autV a) 0).run Tryd.prog w = .ok (.int .i64 a.node) w ∧ (Go.part 3 (autV a) 1).run Tryd.prog w = .ok (.int .i64 a.seq) w ∧
    (Go.part 24 (autV a) 2).run Tryd.prog w = .ok (.agg (nums .u8 a.hash).toArray) w ∧ (Go.part 9 (autV a) 34).run Tryd.prog w = .ok (.string ⟨a.sig.toArray⟩) w := by
  refine ⟨part_cell (by kernel_rfl) rfl, part_cell (by kernel_rfl) rfl, part_row (n := 32) (by kernel_rfl) (by kernel_rfl) (ext_mid [.int .i64 a.node, .int .i64 a.seq] (nums .u8 a.hash) [.string ⟨a.sig.toArray⟩] 2 32 rfl (by rw [nums_len, ha.1])), part_cell (by kernel_rfl) ?_⟩
  have h := get_mid ([.int .i64 a.node, .int .i64 a.seq] ++ nums .u8 a.hash) (.string ⟨a.sig.toArray⟩) [] 34 (by simp [nums_len, ha.1])
  rw [← h]
  simp [autV, autL]
def eqAB (a b : AuthN) : Bool := (a.node == b.node) && ((a.seq == b.seq) && ((a.hash == b.hash) && ((a.sig == b.sig) && true)))
theorem eqAB_eq (a b : AuthN) : eqAB a b = decide (a = b) := by
  obtain ⟨a1, a2, a3, a4⟩ := a
  obtain ⟨b1, b2, b3, b4⟩ := b
  simp only [eqAB, AuthN.mk.injEq]
  rw [Bool.eq_iff_iff]
  simp
theorem equal_aut (a b : AuthN) (ha : IdOk a.hash) (hb : IdOk b.hash) (w : World) :
    (Op.equalIn 10000 26 (.agg (autV a)) (.agg (autV b))).run Tryd.prog w = .ok (decide (a = b)) w := by
  have hs := run_equalIn_struct (P := Tryd.prog) w 9999 26 (autV a) (autV b) (by kernel_rfl) (by kernel_rfl)
  rw [show 9999 + 1 = 10000 from rfl] at hs
  rw [hs]
  obtain ⟨f0, f1, f2, f3, hf, h0, h1, h2, h3⟩ := fields4 aut_fields
  rw [hf]
  obtain ⟨p0, p1, p2, p3⟩ := aut_part a ha w
  obtain ⟨q0, q1, q2, q3⟩ := aut_part b hb w
  have e0 := run_equalIn_int (P := Tryd.prog) w 9998 3 .i64 .i64 a.node b.node Tryd.underlying3
  have e1 := run_equalIn_int (P := Tryd.prog) w 9998 3 .i64 .i64 a.seq b.seq Tryd.underlying3
  have e2 : (Op.equalIn 9999 24 (.agg (nums .u8 a.hash).toArray) (.agg (nums .u8 b.hash).toArray)).run Tryd.prog w = .ok (a.hash == b.hash) w := by
    rw [cells_txt ha.2, cells_txt hb.2, run_equalIn_bytes w 9997 24 5 32 Tryd.underlying24 Tryd.underlying5 Tryd.sizeOf5 (txt a.hash) (txt b.hash) (by rw [txt_len, ha.1]) (by rw [txt_len, hb.1]), txt_beq ha.2 hb.2]
  have e3 := run_equal_text (P := Tryd.prog) (w := w) 9998 9 a.sig b.sig Tryd.underlying9
  have h := eqFields_cons h0 (by decide) p0 q0 e0 (eqFields_cons h1 (by decide) p1 q1 e1 (eqFields_cons h2 (by decide) p2 q2 e2 (eqFields_cons h3 (by decide) p3 q3 e3 eqFields_nil)))
  rw [h, ← eqAB_eq]
  rfl
theorem eql_aut (a b : AuthN) (ha : IdOk a.hash) (hb : IdOk b.hash) (w : World) : (binOp .eql 26 (.agg (autV a)) (.agg (autV b))).run Tryd.prog w = .ok (.bool (decide (a = b))) w := by
  rw [run_eql_struct, equal_aut a b ha hb]
  rfl
theorem guard_aut (x y : Operand) (u v : Array Value) (w : World) : (eqGuard .eql 26 x y (.agg u) (.agg v)).run Tryd.prog w = .ok () w := run_eqGuard_agg w .eql 26 x y u v (by kernel_rfl)
end Go.Proofs.YtpfhlhcnmeodbaaDoor
namespace Go.Proofs.YtpfhlhcnmeodbaaDoor
open Go.RowKit Go.BigFrame
theorem news_id {g : Nat} {e : TypeId} {x : List Nat} {w : World} (h : Blk g e .u8 x w) : ∀ j u, (flatI [x])[j]? = some u → w.cell? ((⟨g, 0, none⟩ : Addr).add j) = some u := fun j u hj => by
  rw [flatI, List.flatMap_cons, List.flatMap_nil, List.append_nil] at hj
  rw [Addr.add_lit, Nat.zero_add, Lib.cell_of_heap h, List.getElem?_toArray]
  exact hj
end Go.Proofs.YtpfhlhcnmeodbaaDoor
namespace Go.Proofs.YtpfhlhcnmeodbaaDoor
open Go.RowKit
theorem run_copy_text {P : Program} (w : World) (dT sT ty elem : TypeId) (g o n cap : Nat) (s : List UInt8) (hu : P.underlying dT = some (.slice elem)) (hs : (P.info? elem).map (·.size) = some 1)
    (hc : ∀ j, j < min s.length n → (w.cell? ⟨g, o + j, none⟩).isSome = true) (hf : ∀ j, j < min s.length n → w.frozen? ⟨g, o + j, none⟩ = false) :
    (Builtin.copy_ #[dT, sT] ty #[.slice (some ⟨g, o, none⟩) n cap, .string ⟨s.toArray⟩]).run P w = .ok (goInt (min s.length n)) (w.setCells g o (nums .u8 (byteNs (s.take n)))) := by
  have hlen : (Lib.byteCells (s.take n)).length = min s.length n := by rw [Lib.byteCells_length, List.length_take, Nat.min_comm]
  have hst := run_storeCells_cells (P := P) g o (Lib.byteCells (s.take n)) 0 w (by rw [hlen]; exact hc) (by rw [hlen]; exact hf) (Lib.byteCells_one _)
  have htk : List.take (min s.length n) (List.map (fun b : UInt8 => Value.int IntKind.u8 (b.toNat : Int)) s) = Lib.byteCells (s.take n) := by
    rw [← List.map_take, Lib.byteCells]
    congr 1
    rcases Nat.le_total s.length n with h | h
    · rw [Nat.min_eq_left h, List.take_of_length_le (Nat.le_refl _), List.take_of_length_le h]
    · rw [Nat.min_eq_right h]
  have hsz : (⟨s.toArray⟩ : ByteArray).size = s.length := by simp [ByteArray.size]
  rw [byteCells_nums] at hst htk
  cases hq : P.info? elem with
  | none => simp [hq] at hs
  | some i =>
    have hmin : s.length.min n = min s.length n := rfl
    simp [Builtin.copy_, run_underlying hu, Builtin.lenOf, Builtin.firstCells, sizeOf, typeInfo, hq, hsz, hmin]
    rw [htk, hst]
    simp [Result.andThen]
    congr 1
    omega
theorem wpList_copy_text {P : Program} {w : World} {ops : Array Oper} {rest : List Oper} {o : Oper} {a : Act} {Q : Exit → Act → World → Prop} (hgd : o.guard = none) (d x : Operand) (dT sT : TypeId)
    (ho : o.op = .call { callee := .builtin .copy, args := #[d, x], argTypes := #[dT, sT] }) (elem : TypeId) (hu : P.underlying dT = some (.slice elem)) (hs : (P.info? elem).map (·.size) = some 1)
    (g off n cap : Nat) (s : List UInt8) (hd : a.eval d = .slice (some ⟨g, off, none⟩) n cap) (hx : a.eval x = .string ⟨s.toArray⟩)
    (hc : ∀ j, j < min s.length n → (w.cell? ⟨g, off + j, none⟩).isSome = true) (hf : ∀ j, j < min s.length n → w.frozen? ⟨g, off + j, none⟩ = false)
    (h : wpList P ops Q rest (a.put o.dst (goInt (min s.length n))) (w.setCells g off (nums .u8 (byteNs (s.take n))))) : wpList P ops Q (o :: rest) a w := by
  refine wpList_plain hgd fun K hK => ?_
  have hrun := run_copy_text (P := P) w dT sT o.type elem g off n cap s hu hs hc hf
  unfold Oper.wp
  simp [execOp, ho, resolve, invoke, builtin, hd, hx, hrun, Result.andThen]
  exact hK _ _ h
theorem Cells.lay {g : Nat} {t : TypeId} : ∀ (vs cs : List Value) (o : Nat) (w : World), Cells g t cs.toArray w → Cells g t (layV cs o vs).toArray (w.setCells g o vs)
  | [], _, _, _, h => h
  | v :: r, cs, o, w, h => by
    have h1 := h.set o v
    rw [List.setIfInBounds_toArray] at h1
    exact Cells.lay r (cs.set o v) (o + 1) _ h1
end Go.Proofs.YtpfhlhcnmeodbaaDoor
namespace Go.Proofs.YtpfhlhcnmeodbaaDoor
open Go.RowKit Go.BigFrame
set_option maxHeartbeats 4000000 in
set_option maxRecDepth 100000 in
theorem dev_word16 (n i : Int) (h : List Nat) (n0 : -9223372036854775808 ≤ n) (hn : n ≤ 9223372036854775807) (i0 : -9223372036854775808 ≤ i) (hi : i ≤ 9223372036854775807) (hh : IdOk h) (w : World) :
    Calls Tryd.prog 17 #[.int .i64 n, .int .i64 i, .agg (nums .u8 h).toArray] w fun r w' => r = .returned (.string ⟨(wordB n i h).toArray⟩) ∧ Below w.heap.size w w' := by
  have hx1 : Cells w.heap.size 24 (nums .u8 h).toArray (w.alloc (.cells (nums .u8 h).toArray 24)) := heap_alloc_new w _
  have HX1 := Lib.hid hx1
  have HB := Lib.hid (show Below w.heap.size w (w.alloc (.cells (nums .u8 h).toArray 24)) from (Below.refl _ _).alloc (Nat.le_refl _) _)
  have HH := Lib.hid hh
  have HLEN := Lib.hid (wordB_len hn hi hh)
  have HN := Lib.hid (fun w' => num_int n w' n0 hn)
  have HI := Lib.hid (fun w' => num_int i w' i0 hi)
  clear hx1 hh
  go_enter Tryd.func17, Tryd.ntmps17
  go_upto_region 1 with (fail)
  obtain ⟨w1, hw1⟩ : ∃ x, x = w.alloc (.cells (nums .u8 h).toArray 24) := ⟨_, rfl⟩
  rw [← hw1] at HX1 HB ⊢
  clear hw1
  have HC3 := Lib.hid (fun (w' : World) (q : Below w1.heap.size w1 w') => conv_mid (P := Tryd.prog) (src := 73) (dst := 9) (c := 32) Tryd.underlying73 Tryd.underlying5 Tryd.underlying9 HH.out.1.symm HH.out.2 (rangeAt_belowI (cells_range HX1.out) q HX1.out.lt))
  refine wp_region_class_tail (fun w' => Below w1.heap.size w1 w') 6 (by kernel_rfl) (by kernel_rfl) (Below.refl _ _).drew ?_
  simp only [List.take_succ_cons, List.take_zero, List.drop_succ_cons, List.drop_zero]
  repeat (first
    | (go_big_quiet_want; refine quiet_conv 73 9 _ rfl (.slice (some ⟨w.heap.size, 0, none⟩) 32 32) _ rfl HC3.out ?_; go_big_quiet_on; simp only [Act.put, List.setIfInBounds_toArray, List.set_cons_zero, List.set_cons_succ])
    | go_big_quiet_step ((intro hs'; first
        | (go_at_call_of 34 (Value.int .i64 n); exact (HN.out _).mono fun e w' h => ⟨h.1, hs'.trans (h.2.mono hs'.size)⟩)
        | (go_at_call_of 34 (Value.int .i64 i); exact (HI.out _).mono fun e w' h => ⟨h.1, hs'.trans (h.2.mono hs'.size)⟩)
        | rfl)))
  refine wpQuiet_nil ?_
  intro w2 hs2
  have HB2 := Lib.hid (HB.out.trans (hs2.mono HB.out.size))
  clear hs2 HX1 HB HC3 HN HI
  go_wp2_with fail
  refine (list_any (some ⟨w2.heap.size, 0, none⟩) 4 [[119, 111, 114, 100], numB n.toNat, numB i.toNat, txt h] _ (at_four9 w2 _ _ _ _) (by simp) (by have := HLEN.out; rw [wordB] at this; omega)).mono ?_
  rintro e w3 ⟨rfl, hb⟩
  have HB3 := Lib.hid (HB2.out.trans (((Below.refl _ w2).alloc (Nat.le_refl _) _).trans (hb.mono (by simp)) |>.mono HB2.out.size))
  clear hb HB2
  go_wp2_with fail
  go_ret
  exact ⟨rfl, HB3.out⟩
set_option maxHeartbeats 4000000 in
set_option maxRecDepth 100000 in
theorem dev_authText16 (a : AuthN) (n0 : -9223372036854775808 ≤ a.node) (hn : a.node ≤ 9223372036854775807) (i0 : -9223372036854775808 ≤ a.seq) (hi : a.seq ≤ 9223372036854775807) (hh : IdOk a.hash) (hs : a.sig.length ≤ 1000000) (w : World) :
    Calls Tryd.prog 16 #[.agg (autV a)] w fun r w' => r = .returned (.string ⟨(authB a).toArray⟩) ∧ Below w.heap.size w w' := by
  have hx1 : Cells w.heap.size 26 (autV a) (w.alloc (.cells (autV a) 26)) := heap_alloc_new w _
  have HX1 := Lib.hid hx1
  have HB := Lib.hid (show Below w.heap.size w (w.alloc (.cells (autV a) 26)) from (Below.refl _ _).alloc (Nat.le_refl _) _)
  have HH := Lib.hid hh
  have HLEN := Lib.hid (authB_len hn hi hh hs)
  obtain ⟨n, hn2⟩ : ∃ n, a.node = n := ⟨_, rfl⟩
  obtain ⟨i, hi2⟩ : ∃ i, a.seq = i := ⟨_, rfl⟩
  rw [hn2] at hn n0
  rw [hi2] at hi i0
  have HN := Lib.hid (fun w' => num_int n w' n0 hn)
  have HI := Lib.hid (fun w' => num_int i w' i0 hi)
  have HNE := Shut.mk hn2
  have HIE := Shut.mk hi2
  clear hx1 hh hn2 hi2
  go_enter Tryd.func16, Tryd.ntmps16
  go_upto_region 1 with (fail)
  obtain ⟨w1, hw1⟩ : ∃ x, x = w.alloc (.cells (autV a) 26) := ⟨_, rfl⟩
  rw [← hw1] at HX1 HB ⊢
  clear hw1
  obtain ⟨c0, c1, c2, c3⟩ := aut_cells HH.out HX1.out
  rw [HNE.out] at c0
  rw [HIE.out] at c1
  have hg := HX1.out.lt
  have HC0 := Lib.hid (fun (w' : World) (q : Below w1.heap.size w1 w') => (q.cell (p := ⟨w.heap.size, 0, none⟩) hg).trans c0)
  have HC1 := Lib.hid (fun (w' : World) (q : Below w1.heap.size w1 w') => (q.cell (p := ⟨w.heap.size, 1, none⟩) hg).trans c1)
  have HC2 := Lib.hid (fun (w' : World) (q : Below w1.heap.size w1 w') => conv_mid (P := Tryd.prog) (src := 73) (dst := 9) (c := 32) Tryd.underlying73 Tryd.underlying5 Tryd.underlying9 HH.out.1.symm HH.out.2 (rangeAt_belowI c2 q hg))
  have HC3 := Lib.hid (fun (w' : World) (q : Below w1.heap.size w1 w') => (q.cell (p := ⟨w.heap.size, 34, none⟩) hg).trans c3)
  clear c0 c1 c2 c3 hg
  refine wp_region_class_tail (fun w' => Below w1.heap.size w1 w') 11 (by kernel_rfl) (by kernel_rfl) (Below.refl _ _).drew ?_
  simp only [List.take_succ_cons, List.take_zero, List.drop_succ_cons, List.drop_zero]
  repeat (first
    | (go_big_quiet_want; refine quiet_load_cell 3 _ rfl ⟨w.heap.size, 0, none⟩ _ rfl HC0.out Tryd.isAgg3 ?_; go_big_quiet_on; simp only [Act.put, List.setIfInBounds_toArray, List.set_cons_zero, List.set_cons_succ])
    | (go_big_quiet_want; refine quiet_load_cell 3 _ rfl ⟨w.heap.size, 1, none⟩ _ rfl HC1.out Tryd.isAgg3 ?_; go_big_quiet_on; simp only [Act.put, List.setIfInBounds_toArray, List.set_cons_zero, List.set_cons_succ])
    | (go_big_quiet_want; refine quiet_load_cell 9 _ rfl ⟨w.heap.size, 34, none⟩ _ rfl HC3.out Tryd.isAgg9 ?_; go_big_quiet_on; simp only [Act.put, List.setIfInBounds_toArray, List.set_cons_zero, List.set_cons_succ])
    | (go_big_quiet_want; refine quiet_conv 73 9 _ rfl (.slice (some ⟨w.heap.size, 2, none⟩) 32 32) _ rfl HC2.out ?_; go_big_quiet_on; simp only [Act.put, List.setIfInBounds_toArray, List.set_cons_zero, List.set_cons_succ])
    | go_big_quiet_step ((intro hs'; first
        | (go_at_call_of 34 (Value.int .i64 n); exact (HN.out _).mono fun e w' h => ⟨h.1, hs'.trans (h.2.mono hs'.size)⟩)
        | (go_at_call_of 34 (Value.int .i64 i); exact (HI.out _).mono fun e w' h => ⟨h.1, hs'.trans (h.2.mono hs'.size)⟩)
        | rfl)))
  refine wpQuiet_nil ?_
  intro w2 hs2
  have HB2 := Lib.hid (HB.out.trans (hs2.mono HB.out.size))
  clear hs2 HX1 HB HC0 HC1 HC2 HC3 HN HI
  go_wp2_with fail
  refine (list_any (some ⟨w2.heap.size, 0, none⟩) 4 [numB n.toNat, numB i.toNat, txt a.hash, a.sig] _ (at_four9 w2 _ _ _ _) (by simp) (by have := HLEN.out; rw [authB, HNE.out, HIE.out] at this; omega)).mono ?_
  rintro e w3 ⟨rfl, hb⟩
  have HB3 := Lib.hid (HB2.out.trans (((Below.refl _ w2).alloc (Nat.le_refl _) _).trans (hb.mono (by simp)) |>.mono HB2.out.size))
  clear hb HB2
  go_wp2_with fail
  go_ret
  exact ⟨by rw [authB, HNE.out, HIE.out]; rfl, HB3.out⟩
end Go.Proofs.YtpfhlhcnmeodbaaDoor
namespace Go.Proofs.YtpfhlhcnmeodbaaDoor
open Go.RowKit Go.BigFrame
def idP (s : List UInt8) (k : Nat) : List Nat := (byteNs s).take k ++ List.replicate (32 - k) 0
theorem idP_len {s : List UInt8} (hs : s.length = 32) {k : Nat} (hk : k ≤ 32) : (idP s k).length = 32 := by
  rw [idP, List.length_append, List.length_take, byteNs_len, List.length_replicate]
  omega
theorem idP_full {s : List UInt8} (hs : s.length = 32) : idP s 32 = byteNs s := by
  rw [idP, List.take_of_length_le (by rw [byteNs_len]; omega)]
  simp
theorem idP_step {s : List UInt8} (hs : s.length = 32) {k : Nat} (hk : k < 32) : (idP s k).set k (s[k]'(by omega)).toNat = idP s (k + 1) := by
  have hkb : k < (byteNs s).length := by rw [byteNs_len]; omega
  have e : (byteNs s)[k] = (s[k]'(by omega)).toNat := by simp [byteNs]
  rw [idP, idP, List.set_append_right _ _ (by rw [List.length_take]; omega), List.length_take, show k - min k (byteNs s).length = 0 by omega, List.take_succ_eq_append_getElem hkb, show 32 - k = (32 - (k + 1)) + 1 by omega, List.replicate_succ, List.set_cons_zero, e]
  simp
theorem split_parts {s : List UInt8} {l : List (List UInt8)} (h : splitB s = some l) : ∀ t ∈ l, t.length ≤ 262144 := fun t ht => by
  have h1 := splitB_some h
  have h2 : s.length ≤ 262144 := by
    unfold splitB at h
    split at h
    · cases h
    · omega
  obtain ⟨q, hq, rfl⟩ := List.getElem_of_mem ht
  have h3 := textsB_parts l q hq
  have h4 := listB_length l
  have h5 := textB_length l[q]
  rw [h1] at h4
  omega
end Go.Proofs.YtpfhlhcnmeodbaaDoor
namespace Go.Proofs.YtpfhlhcnmeodbaaDoor
open Go.RowKit
def Rd (b : Nat) (s : List UInt8) (f : Bool) (w : World) : Prop := w.heap[b]? = some (.cells #[.string ⟨s.toArray⟩, .bool f] 153 (0, 0))
theorem Rd.cell0 {b : Nat} {s : List UInt8} {f : Bool} {w : World} (h : Rd b s f w) : w.cell? ⟨b, 0, none⟩ = some (.string ⟨s.toArray⟩) := by simp [World.cell?, show w.heap[b]? = _ from h]
theorem Rd.cell1 {b : Nat} {s : List UInt8} {f : Bool} {w : World} (h : Rd b s f w) : w.cell? ⟨b, 1, none⟩ = some (.bool f) := by simp [World.cell?, show w.heap[b]? = _ from h]
theorem Rd.free0 {b : Nat} {s : List UInt8} {f : Bool} {w : World} (h : Rd b s f w) : w.frozen? ⟨b, 0, none⟩ = false := by simp [World.frozen?, show w.heap[b]? = _ from h]
theorem Rd.free1 {b : Nat} {s : List UInt8} {f : Bool} {w : World} (h : Rd b s f w) : w.frozen? ⟨b, 1, none⟩ = false := by simp [World.frozen?, show w.heap[b]? = _ from h]
theorem Rd.lt {b : Nat} {s : List UInt8} {f : Bool} {w : World} (h : Rd b s f w) : b < w.heap.size := lt_of_block h
theorem Rd.set0 {b : Nat} {s : List UInt8} {f : Bool} {w : World} (h : Rd b s f w) (s' : List UInt8) : Rd b s' f (w.setCell ⟨b, 0, none⟩ (.string ⟨s'.toArray⟩)) := by
  unfold Rd; rw [heap_setCell_at h]; rfl
theorem Rd.set1 {b : Nat} {s : List UInt8} {f : Bool} {w : World} (h : Rd b s f w) (f' : Bool) : Rd b s f' (w.setCell ⟨b, 1, none⟩ (.bool f')) := by
  unfold Rd; rw [heap_setCell_at h]; rfl
theorem Rd.below {b : Nat} {s : List UInt8} {f : Bool} {w w' : World} (h : Rd b s f w) (k : Below w.heap.size w w') : Rd b s f w' := (k.block b h.lt).trans h
theorem rd_new (s : List UInt8) (f : Bool) (w : World) : Rd w.heap.size s f (w.alloc (.cells #[.string ⟨s.toArray⟩, .bool f] 153 (0, 0))) := by
  show (w.heap.push _)[_]? = _
  simp
theorem fail_any (b : Nat) (s : List UInt8) (f : Bool) (w : World) (h : Rd b s f w) :
    Calls Tryd.prog 102 #[.pointer (some ⟨b, 0, none⟩)] w fun e w' => e = .returned (.tuple #[]) ∧ Rd b [] true w' ∧ But b w w' := by
  have g0 := h.cell0
  have g1 := h.cell1
  have z0 := h.free0
  have z1 := h.free1
  have H := Lib.hid h
  clear h
  go_enter Tryd.func102, Tryd.ntmps102
  go_wp2
  go_end0
  exact ⟨rfl, (H.out.set0 []).set1 true, ((But.refl b w).setCell 0 _).setCell 1 _⟩
theorem open_ok (s : List UInt8) (w : World) (hs : s.length ≤ 262144) :
    Calls Tryd.prog 65 #[.string ⟨s.toArray⟩] w fun e w' => e = .returned (.pointer (some ⟨w.heap.size, 0, none⟩)) ∧ Rd w.heap.size s false w' ∧ Below w.heap.size w w' := by
  go_enter Tryd.func65, Tryd.ntmps65
  go_wp2_with fail
  go_ret
  exact ⟨rfl, rd_new _ _ _, (Below.refl _ _).alloc (Nat.le_refl _) _⟩
theorem open_long (s : List UInt8) (w : World) (hs : 262144 < s.length) (hm : s.length ≤ 9223372036854775807) :
    Calls Tryd.prog 65 #[.string ⟨s.toArray⟩] w fun e w' => e = .returned (.pointer (some ⟨w.heap.size, 0, none⟩)) ∧ Rd w.heap.size [] true w' ∧ Below w.heap.size w w' := by
  go_enter Tryd.func65, Tryd.ntmps65
  go_wp2_with fail
  refine (fail_any _ s false _ (rd_new _ _ _)).mono ?_
  rintro e w' ⟨rfl, h1, h2⟩
  have h3 := But.toBelow ((Below.refl w.heap.size w).alloc (Nat.le_refl _) _) h2 (Nat.le_refl _) (by simp)
  clear h2
  go_wp2_with fail
  go_ret
  exact ⟨rfl, h1, h3⟩
theorem take_few (b : Nat) (s : List UInt8) (f : Bool) (n : Int) (w : World) (h : Rd b s f w) (hn : (s.length : Int) < n) :
    Calls Tryd.prog 104 #[.pointer (some ⟨b, 0, none⟩), .int .i64 n] w fun e w' => e = .returned (.string ⟨#[]⟩) ∧ Rd b [] true w' ∧ But b w w' := by
  have g0 := h.cell0
  have H := Lib.hid h
  clear h
  go_enter Tryd.func104, Tryd.ntmps104
  go_wp2_with (go_at_call 102; refine (fail_any _ s f _ (by exact H.out)).mono ?_; rintro e w' ⟨rfl, h1, h2⟩)
  go_ret
  exact ⟨rfl, by assumption, by assumption⟩
theorem take_some (b : Nat) (s : List UInt8) (f : Bool) (n : Nat) (w : World) (h : Rd b s f w) (hn : n ≤ s.length) :
    Calls Tryd.prog 104 #[.pointer (some ⟨b, 0, none⟩), .int .i64 n] w fun e w' => e = .returned (.string ⟨(s.take n).toArray⟩) ∧ Rd b (s.drop n) f w' ∧ But b w w' := by
  have g0 := h.cell0
  have z0 := h.free0
  have H := Lib.hid h
  clear h
  go_enter Tryd.func104, Tryd.ntmps104
  go_wp2_with fail
  go_ret
  rw [extract_head, extract_tail]
  exact ⟨rfl, H.out.set0 _, (But.refl b w).setCell 0 _⟩
end Go.Proofs.YtpfhlhcnmeodbaaDoor
namespace Go.Proofs.YtpfhlhcnmeodbaaDoor
open Go.RowKit
theorem head_byte (k : UInt8) : wrap64 ((({ data := #[k] } : ByteArray)[0]'(Nat.zero_lt_one)).toNat : Int) = (k.toNat : Int) := by
  have e : ({ data := #[k] } : ByteArray)[0]'(Nat.zero_lt_one) = k := rfl
  have := k.toNat_lt
  rw [e]
  unfold wrap64
  omega
theorem num_zero (w : World) : Calls Tryd.prog 34 #[.int .i64 0] w fun e w' => e = .returned (.string ⟨#[0]⟩) ∧ Below w.heap.size w w' := by
  have h := num_any 0 w (by decide)
  have e : numB 0 = [0] := by simp [numB, dig_zero]
  rw [e] at h
  exact h
theorem cat_toList (k : UInt8) (l : List UInt8) : (({ data := #[k] } : ByteArray) ++ { data := l.toArray }).toList = k :: l := by
  rw [ByteArray.toList_eq, ByteArray.data_append]
  simp
theorem rnum_empty (b : Nat) (f : Bool) (w : World) (h : Rd b [] f w) :
    Calls Tryd.prog 68 #[.pointer (some ⟨b, 0, none⟩)] w fun e w' => e = .returned (.int .i64 0) ∧ Rd b [] true w' ∧ But b w w' := by
  go_enter Tryd.func68, Tryd.ntmps68
  go_wp2_with fail
  refine (take_few b [] f 1 _ h (by decide)).mono ?_
  rintro e w1 ⟨rfl, h1, hb1⟩
  have g1 := h1.cell1
  have H1 := Lib.hid h1
  have HB := Lib.hid hb1
  clear h1 hb1 h
  go_wp2_with fail
  go_ret
  exact ⟨rfl, H1.out, HB.out⟩
theorem rnum_few (b : Nat) (k : UInt8) (t : List UInt8) (w : World) (h : Rd b (k :: t) false w) (hk : t.length < k.toNat) :
    Calls Tryd.prog 68 #[.pointer (some ⟨b, 0, none⟩)] w fun e w' => e = .returned (.int .i64 0) ∧ Rd b [] true w' ∧ But b w w' := by
  go_enter Tryd.func68, Tryd.ntmps68
  go_wp2_with fail
  refine (take_some b (k :: t) false 1 _ h (by simp)).mono ?_
  rintro e w1 ⟨rfl, h1, hb1⟩
  have g1 := h1.cell1
  have H1 := Lib.hid h1
  have HB := Lib.hid hb1
  clear h1 hb1 h
  go_wp2_with fail
  rw [show wrap64 ((({ data := #[k] } : ByteArray)[0]'(Nat.zero_lt_one)).toNat : Int) = (k.toNat : Int) from head_byte k]
  refine (take_few b _ false k.toNat _ H1.out (by simp; omega)).mono ?_
  rintro e w2 ⟨rfl, h2, hb2⟩
  have H2 := Lib.hid h2
  have HB2 := Lib.hid (HB.out.trans hb2)
  clear h2 hb2 H1 HB g1
  go_wp2_with fail
  refine wp_loop_rounds 1 ?_
  rw [rounds_succ]
  go_wp2_with fail
  refine (num_zero _).mono ?_
  rintro e w3 ⟨rfl, hb3⟩
  have H3 := Lib.hid (H2.out.below hb3)
  have HB3 := Lib.hid (HB2.out.below hb3)
  clear hb3 H2 HB2
  have htest : ([(0 : UInt8)] == (({ data := #[k] } : ByteArray) ++ { data := #[] }).toList) = false := by
    rw [cat_toList k []]
    have : k ≠ 0 := fun e => by subst e; exact Nat.not_lt_zero _ hk
    simpa using fun e => this e.symm
  clear hk
  go_wp2_with fail
  refine (fail_any b [] true _ H3.out).mono ?_
  rintro e w4 ⟨rfl, h4, hb4⟩
  have H4 := Lib.hid h4
  have HB4 := Lib.hid (HB3.out.trans hb4)
  clear h4 hb4 H3 HB3
  go_wp2_with fail
  go_ret
  exact ⟨rfl, H4.out, HB4.out⟩
def Acc (l : List UInt8) (m : Int) : Prop := -9223372036854775808 ≤ m ∧ m ≤ 9223372036854775807 ∧ (val l < 9223372036854775808 → m = val l)
theorem i64_or_join (a d : Nat) (ha : a % 256 = 0) (hd : d < 256) (h : a + d < 9223372036854775808) : bits .or .i64 (a : Int) (d : Int) = ((a + d : Nat) : Int) := by
  have e : a ||| d = a + d := nat_join 8 a d ha hd
  have ea : (BitVec.ofInt 64 (a : Int)).toNat = a := ofInt_u64 a (by omega)
  have ed : (BitVec.ofInt 64 (d : Int)).toNat = d := ofInt_u64 d (by omega)
  show IntKind.i64.wrap ((BitVec.ofInt 64 (a : Int) ||| BitVec.ofInt 64 (d : Int)).toNat : Int) = _
  rw [BitVec.toNat_or, ea, ed, e, IntKind.wrap_i64]
  omega
theorem acc_step (l : List UInt8) (m : Int) (q : Nat) (hq : q < l.length) (h : Acc (l.take q) m) (hx : q < (⟨l.toArray⟩ : ByteArray).size) :
    Acc (l.take (q + 1)) (bits .or .i64 (wrap64 (m * 256)) (wrap64 ((⟨l.toArray⟩ : ByteArray)[q].toNat : Int))) := by
  have eb : (⟨l.toArray⟩ : ByteArray)[q] = l[q] := by simp [ByteArray.getElem_eq_getElem_data]
  have hd := l[q].toNat_lt
  rw [eb]
  have et : l.take (q + 1) = l.take q ++ [l[q]] := by rw [List.take_succ_eq_append_getElem hq]
  rw [et]
  have hw : (Lit.int .i64 (bits .or .i64 (wrap64 (m * 256)) (wrap64 (l[q].toNat : Int)))).wf = true := wf_bits _ _ _ _
  obtain ⟨w1, w2⟩ := bounds_i64 hw
  refine ⟨w1, w2, fun hv => ?_⟩
  rw [val_snoc] at hv ⊢
  have hm := h.2.2 (by omega)
  subst hm
  have e1 : wrap64 ((val (l.take q) : Int) * 256) = ((val (l.take q) * 256 : Nat) : Int) := by
    unfold wrap64; omega
  have e2 : wrap64 (l[q].toNat : Int) = (l[q].toNat : Int) := by unfold wrap64; omega
  rw [e1, e2, i64_or_join _ _ (by omega) (by omega) hv]
theorem rnum_digits (b : Nat) (k : UInt8) (t : List UInt8) (w : World) (h : Rd b (k :: t) false w) (hk : k.toNat ≤ t.length) :
    Calls Tryd.prog 68 #[.pointer (some ⟨b, 0, none⟩)] w fun e w' => ∃ m, Acc (t.take k.toNat) m ∧
      if numB m.toNat = k :: t.take k.toNat then e = .returned (.int .i64 m) ∧ Rd b (t.drop k.toNat) false w' ∧ But b w w' else e = .returned (.int .i64 0) ∧ Rd b [] true w' ∧ But b w w' := by
  go_enter Tryd.func68, Tryd.ntmps68
  go_wp2_with fail
  refine (take_some b (k :: t) false 1 _ h (by simp)).mono ?_
  rintro e w1 ⟨rfl, h1, hb1⟩
  have g1 := h1.cell1
  have H1 := Lib.hid h1
  have HB := Lib.hid hb1
  clear h1 hb1 h
  go_wp2_with fail
  rw [show wrap64 ((({ data := #[k] } : ByteArray)[0]'(Nat.zero_lt_one)).toNat : Int) = (k.toNat : Int) from head_byte k]
  refine (take_some b _ false k.toNat _ H1.out (by simp; omega)).mono ?_
  rintro e w2 ⟨rfl, h2, hb2⟩
  have H2 := Lib.hid h2
  have HB2 := Lib.hid (HB.out.trans hb2)
  clear h2 hb2 H1 HB g1
  simp only [List.drop_one, List.tail_cons] at H2 ⊢
  have hlen : (t.take k.toNat).length ≤ 255 := by have := k.toNat_lt; simp; omega
  generalize hd : t.take k.toNat = ds at hlen ⊢
  have HD := Lib.hid hd
  clear hd hk
  go_wp2_with fail
  go_loop [5, 22] (fun n i => ∃ (q : Nat) (m : Int), q ≤ ds.length ∧ i = .int .i64 q ∧ n = .int .i64 m ∧ Acc (ds.take q) m) (fun _ i => ds.length - (intOf i).toNat)
  case atStart => exact ⟨0, 0, Nat.zero_le _, rfl, rfl, by decide, by decide, fun _ => rfl⟩
  case round =>
    obtain ⟨q, m, hq, rfl, rfl, hacc⟩ := hrel
    have HA := Lib.hid hacc
    have hlo := hacc.1
    have hhi := hacc.2.1
    clear hacc
    by_cases hlt : q < ds.length
    · go_wp2_with fail
      refine ⟨⟨q + 1, _, by omega, by go_num, rfl, acc_step ds m q hlt HA.out _⟩, by simp [intOf]; omega⟩
    · obtain rfl : q = ds.length := by omega
      go_wp2_with fail
      refine (num_int m _ hlo hhi).mono ?_
      rintro e w3 ⟨rfl, hb3⟩
      have H3 := Lib.hid (H2.out.below hb3)
      have HB3 := Lib.hid (HB2.out.below hb3)
      have HA2 := Lib.hid (show Acc ds m by simpa using HA.out)
      clear hb3 H2 HB2 HA
      by_cases heq : numB m.toNat = k :: ds
      · have htest : (numB m.toNat == (({ data := #[k] } : ByteArray) ++ { data := ds.toArray }).toList) = true := by rw [cat_toList k ds, heq]; simp
        have HE := Lib.hid heq
        clear heq
        go_wp2_with fail
        go_ret
        rw [HD.out]
        refine ⟨m, HA2.out, ?_⟩
        rw [if_pos HE.out]
        exact ⟨rfl, H3.out, HB3.out⟩
      · have htest : (numB m.toNat == (({ data := #[k] } : ByteArray) ++ { data := ds.toArray }).toList) = false := by rw [cat_toList k ds]; simpa using heq
        have HE := Lib.hid heq
        clear heq
        go_wp2_with fail
        refine (fail_any b _ false _ H3.out).mono ?_
        rintro e w4 ⟨rfl, h4, hb4⟩
        have H4 := Lib.hid h4
        have HB4 := Lib.hid (HB3.out.trans hb4)
        clear h4 hb4 H3 HB3
        go_wp2_with fail
        go_ret
        rw [HD.out]
        refine ⟨m, HA2.out, ?_⟩
        rw [if_neg HE.out]
        exact ⟨rfl, H4.out, HB4.out⟩
def rdNum (s : List UInt8) : Nat × List UInt8 × Bool := match takeNum s with | some (n, r) => (n, r, false) | none => (0, [], true)
theorem rnum_any (b : Nat) (s : List UInt8) (f : Bool) (w : World) (h : Rd b s f w) (hf : f = true → s = []) :
    Calls Tryd.prog 68 #[.pointer (some ⟨b, 0, none⟩)] w fun e w' => e = .returned (.int .i64 (rdNum s).1) ∧ Rd b (rdNum s).2.1 (rdNum s).2.2 w' ∧ But b w w' := by
  cases s with
  | nil => exact rnum_empty b f w h
  | cons k t =>
    have f0 : f = false := by cases f with | false => rfl | true => cases hf rfl
    subst f0
    by_cases hk : k.toNat ≤ t.length
    · refine (rnum_digits b k t w h hk).mono ?_
      rintro e w' ⟨m, hacc, hpost⟩
      by_cases hv : val (t.take k.toNat) < 9223372036854775808
      · have hm := hacc.2.2 hv
        have hmn : m.toNat = val (t.take k.toNat) := by rw [hm]; rfl
        rw [hmn] at hpost
        by_cases heq : numB (val (t.take k.toNat)) = k :: t.take k.toNat
        · rw [if_pos heq] at hpost
          simp only [rdNum, takeNum, hk, hv, heq, and_self, if_true]
          rw [hm] at hpost
          exact hpost
        · rw [if_neg heq] at hpost
          simp only [rdNum, takeNum, hk, hv, heq, and_false, if_false]
          exact hpost
      · have hne : ¬ numB m.toNat = k :: t.take k.toNat := by
          intro he
          have h2 : dig m.toNat = t.take k.toNat := by simp only [numB, List.cons.injEq] at he; exact he.2
          have := hacc.2.1
          rw [← h2, val_dig] at hv
          omega
        rw [if_neg hne] at hpost
        simp only [rdNum, takeNum, hv, false_and, and_false, if_false]
        exact hpost
    · refine (rnum_few b k t w h (by omega)).mono ?_
      simp only [rdNum, takeNum, hk, false_and, if_false]
      exact fun e w' h => h
end Go.Proofs.YtpfhlhcnmeodbaaDoor
namespace Go.Proofs.YtpfhlhcnmeodbaaDoor
open Go.RowKit
theorem rtn_nil (w : World) :
    Calls Tryd.prog 70 #[.string ⟨#[]⟩] w fun e w' => e = .returned (.tuple #[.int .i64 0, .string ⟨#[]⟩, .bool false]) ∧ Below w.heap.size w w' := by
  go_enter Tryd.func70, Tryd.ntmps70
  go_wp2_with fail
  go_ret3
  exact ⟨rfl, Below.refl _ _⟩
theorem wrap_byte (k : UInt8) : wrap64 (k.toNat : Int) = (k.toNat : Int) := by
  have := k.toNat_lt
  unfold wrap64
  omega
theorem rtn_big (k : UInt8) (t : List UInt8) (w : World) (hk : 8 < k.toNat) :
    Calls Tryd.prog 70 #[.string ⟨(k :: t).toArray⟩] w fun e w' => e = .returned (.tuple #[.int .i64 0, .string ⟨#[]⟩, .bool false]) ∧ Below w.heap.size w w' := by
  have he0 : ∀ h, ((⟨(k :: t).toArray⟩ : ByteArray)[0]'h) = k := fun _ => rfl
  have hw := wrap_byte k
  have h255 : k.toNat ≤ 255 := by have := k.toNat_lt; omega
  have hd : decide ((8 : Int) < (k.toNat : Int)) = true := by simp; omega
  go_enter Tryd.func70, Tryd.ntmps70
  go_wp2_with fail
  go_ret3
  exact ⟨rfl, Below.refl _ _⟩
theorem rtn_short (k : UInt8) (t : List UInt8) (w : World) (hk : k.toNat ≤ 8) (hl : t.length < k.toNat) :
    Calls Tryd.prog 70 #[.string ⟨(k :: t).toArray⟩] w fun e w' => e = .returned (.tuple #[.int .i64 0, .string ⟨#[]⟩, .bool false]) ∧ Below w.heap.size w w' := by
  have he0 : ∀ h, ((⟨(k :: t).toArray⟩ : ByteArray)[0]'h) = k := fun _ => rfl
  have hw := wrap_byte k
  have hd : decide ((8 : Int) < (k.toNat : Int)) = false := by simp; omega
  have hd2 : decide ((t.length : Int) + 1 < 1 + (k.toNat : Int)) = true := by simp; omega
  go_enter Tryd.func70, Tryd.ntmps70
  go_wp2_with fail
  go_ret3
  exact ⟨rfl, Below.refl _ _⟩
theorem cons_at (k : UInt8) (t : List UInt8) (q : Nat) (hq : q < t.length) (h : q + 1 < (⟨(k :: t).toArray⟩ : ByteArray).size) : (⟨(k :: t).toArray⟩ : ByteArray)[q + 1] = t[q] := by
  simp [ByteArray.getElem_eq_getElem_data]
theorem extract_cons (k : UInt8) (t : List UInt8) (n : Nat) : (⟨(k :: t).toArray⟩ : ByteArray).extract (1 + n) (t.length + 1) = ⟨(t.drop n).toArray⟩ := by
  have := extract_tail (k :: t) (1 + n)
  rw [List.length_cons] at this
  rw [this, Nat.add_comm 1 n, List.drop_succ_cons]
set_option maxHeartbeats 1000000 in
theorem rtn_digits (k : UInt8) (t : List UInt8) (w : World) (hk : k.toNat ≤ 8) (hl : k.toNat ≤ t.length) (hm : t.length ≤ 9223372036854775000) :
    Calls Tryd.prog 70 #[.string ⟨(k :: t).toArray⟩] w fun e w' => e = .returned (.tuple #[.int .i64 ((takeNum (k :: t)).getD (0, [])).1, .string ⟨((takeNum (k :: t)).getD (0, [])).2.toArray⟩, .bool (takeNum (k :: t)).isSome]) ∧ Below w.heap.size w w' := by
  have he0 : ∀ h, ((⟨(k :: t).toArray⟩ : ByteArray)[0]'h) = k := fun _ => rfl
  have hw := wrap_byte k
  have hd : decide ((8 : Int) < (k.toNat : Int)) = false := by simp; omega
  have hd2 : decide ((t.length : Int) + 1 < 1 + (k.toNat : Int)) = false := by simp; omega
  go_enter Tryd.func70, Tryd.ntmps70
  go_wp2_with fail
  clear hd hd2
  go_loop [6, 7] (fun n i => ∃ q : Nat, q ≤ k.toNat ∧ i = .int .i64 (1 + q) ∧ n = .int .i64 (val (t.take q)) ∧ val (t.take q) < 9223372036854775808) (fun _ i => k.toNat + 1 - (intOf i).toNat)
  case atStart => exact ⟨0, Nat.zero_le _, rfl, rfl, by rw [List.take_zero]; decide⟩
  case round =>
    obtain ⟨q, hq, rfl, rfl, hval⟩ := hrel
    by_cases hlt : q < k.toNat
    · by_cases hov : 36028797018963967 < val (t.take q)
      · have HN := Lib.hid (takeNum_over hl hlt (by omega))
        go_wp2_with fail
        go_ret3
        rw [HN.out]
        exact ⟨rfl, Below.refl _ _⟩
      · have hat : ∀ h, ((⟨(k :: t).toArray⟩ : ByteArray)[q + 1]'h) = t[q]'(by omega) := fun h => cons_at k t q (by omega) h
        have hat2 : ∀ h, ((⟨(k :: t).toArray⟩ : ByteArray)[1 + q]'h) = t[q]'(by omega) := by intro h; simp only [Nat.add_comm 1 q]; exact cons_at k t q (by omega) _
        have hw2 := wrap_byte (t[q]'(by omega))
        have HV := Lib.hid (show val (t.take (q + 1)) = val (t.take q) * 256 + (t[q]'(by omega)).toNat by rw [List.take_succ_eq_append_getElem (by omega), val_snoc])
        have h255 := (t[q]'(by omega)).toNat_lt
        go_wp2_with fail
        exact ⟨⟨q + 1, by omega, by go_num, by rw [HV.out]; go_num, by rw [HV.out]; omega⟩, by simp [intOf]; omega⟩
    · obtain rfl : q = k.toNat := by omega
      have hneg : decide ((val (t.take k.toNat) : Int) < 0) = false := by simp
      by_cases h0 : k.toNat = 0
      · have HN := Lib.hid (takeNum_good hl hval (fun h => by omega))
        have hpos : decide (0 < k.toNat) = false := by simp; omega
        have hle : k.toNat ≤ 0 := by omega
        have HK := Lib.hid h0
        clear h0
        go_wp2_with fail
        go_quiet (fail)
        go_wp2_with fail
        go_ret3
        rw [extract_cons, HN.out]
        exact ⟨rfl, drawn_below (Below.refl _ _) nq⟩
      · have hpos : decide (0 < k.toNat) = true := by simp; omega
        have hat2 : ∀ h, ((⟨(k :: t).toArray⟩ : ByteArray)[1]'h) = t[0]'(by omega) := fun h => cons_at k t 0 (by omega) h
        by_cases hz : t[0]'(by omega) = 0
        · have HN := Lib.hid (takeNum_zero hl (by omega) hz)
          have hz1 : ((t[0]'(by omega)).toNat : Int) = 0 := by rw [hz]; rfl
          have hz2 : (((t[0]'(by omega)).toNat : Int) == 0) = true := by rw [hz]; rfl
          clear hz hz1
          go_wp2_with fail
          go_ret3
          rw [HN.out]
          exact ⟨rfl, Below.refl _ _⟩
        · have HN := Lib.hid (takeNum_good hl hval (fun h => hz))
          have hz2 : (((t[0]'(by omega)).toNat : Int) == 0) = false := by
            have : (t[0]'(by omega)).toNat ≠ 0 := fun e => hz (by rw [← UInt8.toNat_inj]; simpa using e)
            simp only [beq_eq_false_iff_ne, ne_eq]
            omega
          clear hz
          go_wp2_with fail
          go_quiet (fail)
          go_wp2_with fail
          go_ret3
          rw [extract_cons, HN.out]
          exact ⟨rfl, drawn_below (Below.refl _ _) nq⟩
end Go.Proofs.YtpfhlhcnmeodbaaDoor
namespace Go.Proofs.YtpfhlhcnmeodbaaDoor
open Go.RowKit
theorem rtn_any (s : List UInt8) (w : World) (hm : s.length ≤ 9223372036854775000) :
    Calls Tryd.prog 70 #[.string ⟨s.toArray⟩] w fun e w' => e = .returned (.tuple #[.int .i64 ((takeNum s).getD (0, [])).1, .string ⟨((takeNum s).getD (0, [])).2.toArray⟩, .bool (takeNum s).isSome]) ∧ Below w.heap.size w w' := by
  cases s with
  | nil => exact rtn_nil w
  | cons k t =>
    simp only [List.length_cons] at hm
    by_cases h8 : k.toNat ≤ 8
    · by_cases hl : k.toNat ≤ t.length
      · exact rtn_digits k t w h8 hl (by omega)
      · rw [takeNum_short (by omega)]
        exact rtn_short k t w h8 (by omega)
    · rw [takeNum_big t (by omega)]
      exact rtn_big k t w (by omega)
theorem rtt_none (s : List UInt8) (w : World) (hm : s.length ≤ 9223372036854775000) (h : takeNum s = none) :
    Calls Tryd.prog 105 #[.string ⟨s.toArray⟩] w fun e w' => e = .returned (.tuple #[.string ⟨#[]⟩, .string ⟨#[]⟩, .bool false]) ∧ Below w.heap.size w w' := by
  have hc := rtn_any s w hm
  rw [h] at hc
  have HC := Lib.hid hc
  clear hc h
  go_enter Tryd.func105, Tryd.ntmps105
  go_wp2_with fail
  refine HC.out.mono ?_
  rintro e w1 ⟨rfl, hb⟩
  have HB := Lib.hid hb
  clear hb HC
  go_wp2_with fail
  go_ret3
  exact ⟨rfl, HB.out⟩
theorem rtt_num (s r : List UInt8) (n : Nat) (w : World) (hm : s.length ≤ 9223372036854775000) (h : takeNum s = some (n, r)) :
    Calls Tryd.prog 105 #[.string ⟨s.toArray⟩] w fun e w' => e = .returned (.tuple #[.string ⟨((takeText s).getD ([], [])).1.toArray⟩, .string ⟨((takeText s).getD ([], [])).2.toArray⟩, .bool (takeText s).isSome]) ∧ Below w.heap.size w w' := by
  have hc := rtn_any s w hm
  rw [h] at hc
  have hlt := takeNum_lt h
  have hrl := takeNum_len h
  have HC := Lib.hid hc
  have ht : takeText s = if n ≤ r.length then some (r.take n, r.drop n) else none := by simp only [takeText, h]
  clear hc h
  by_cases hn : n ≤ r.length
  · rw [if_pos hn] at ht
    rw [ht]
    clear ht
    go_enter Tryd.func105, Tryd.ntmps105
    go_wp2_with fail
    refine HC.out.mono ?_
    rintro e w1 ⟨rfl, hb⟩
    have HB := Lib.hid hb
    clear hb HC
    simp only [Option.getD_some, Option.isSome_some]
    go_wp2_with fail
    go_quiet (fail)
    go_wp2_with fail
    go_ret3
    rw [extract_head, extract_tail]
    exact ⟨rfl, drawn_below HB.out nq⟩
  · rw [if_neg hn] at ht
    rw [ht]
    clear ht
    go_enter Tryd.func105, Tryd.ntmps105
    go_wp2_with fail
    refine HC.out.mono ?_
    rintro e w1 ⟨rfl, hb⟩
    have HB := Lib.hid hb
    clear hb HC
    simp only [Option.getD_some, Option.isSome_some]
    go_wp2_with fail
    go_ret3
    exact ⟨rfl, HB.out⟩
theorem rtt_any (s : List UInt8) (w : World) (hm : s.length ≤ 9223372036854775000) :
    Calls Tryd.prog 105 #[.string ⟨s.toArray⟩] w fun e w' => e = .returned (.tuple #[.string ⟨((takeText s).getD ([], [])).1.toArray⟩, .string ⟨((takeText s).getD ([], [])).2.toArray⟩, .bool (takeText s).isSome]) ∧ Below w.heap.size w w' := by
  cases h : takeNum s with
  | none =>
    have ht : takeText s = none := by simp only [takeText, h]
    rw [ht]
    exact rtt_none s w hm h
  | some p => exact rtt_num s p.2 p.1 w hm h
def ListPost (B : Nat) (o : Option (List (List UInt8) × List UInt8)) (e : Ending) (w' : World) : Prop :=
  ∃ v, e = .returned (.tuple #[v, .string ⟨(o.getD ([], [])).2.toArray⟩, .bool o.isSome]) ∧ OwnS B v (o.getD ([], [])).1 w'
theorem rtl_none (s : List UInt8) (w : World) (hm : s.length ≤ 9223372036854775000) (h : takeNum s = none) :
    Calls Tryd.prog 69 #[.string ⟨s.toArray⟩] w fun e w' => ListPost w.heap.size none e w' ∧ Below w.heap.size w w' := by
  have hc := rtn_any s w hm
  rw [h] at hc
  have HC := Lib.hid hc
  clear hc h
  go_enter Tryd.func69, Tryd.ntmps69
  go_wp2_with fail
  refine HC.out.mono ?_
  rintro e w1 ⟨rfl, hb⟩
  have HB := Lib.hid hb
  clear hb HC
  go_wp2_with fail
  go_ret3
  exact ⟨⟨_, rfl, OwnS.nil _ _⟩, HB.out⟩
theorem rtl_many (s r : List UInt8) (n : Nat) (w : World) (hm : s.length ≤ 9223372036854775000) (h : takeNum s = some (n, r)) (hn : 4096 < n) :
    Calls Tryd.prog 69 #[.string ⟨s.toArray⟩] w fun e w' => ListPost w.heap.size none e w' ∧ Below w.heap.size w w' := by
  have hc := rtn_any s w hm
  rw [h] at hc
  have hlt := takeNum_lt h
  have HC := Lib.hid hc
  clear hc h
  go_enter Tryd.func69, Tryd.ntmps69
  go_wp2_with fail
  refine HC.out.mono ?_
  rintro e w1 ⟨rfl, hb⟩
  have HB := Lib.hid hb
  clear hb HC
  simp only [Option.getD_some, Option.isSome_some]
  go_wp2_with fail
  go_ret3
  exact ⟨⟨_, rfl, OwnS.nil _ _⟩, HB.out⟩
end Go.Proofs.YtpfhlhcnmeodbaaDoor
namespace Go.Proofs.YtpfhlhcnmeodbaaDoor
open Go.RowKit
theorem takeTexts_next {q : Nat} {r rest t r2 : List UInt8} {l : List (List UInt8)} (h : takeTexts q r = some (l, rest)) (ht : takeText rest = some (t, r2)) : takeTexts (q + 1) r = some (l ++ [t], r2) := by
  rw [takeTexts_succ, h]; simp only [ht]
theorem takeTexts_stop {q n : Nat} {r rest : List UInt8} {l : List (List UInt8)} (h : takeTexts q r = some (l, rest)) (ht : takeText rest = none) (hq : q < n) : takeTexts n r = none :=
  takeTexts_none_mono (k := q + 1) (by rw [takeTexts_succ, h]; simp only [ht]) n (by omega)
set_option maxHeartbeats 1000000 in
set_option maxRecDepth 100000 in
theorem rtl_texts (s r : List UInt8) (n : Nat) (w : World) (hm : s.length ≤ 9223372036854775000) (h : takeNum s = some (n, r)) (hn : n ≤ 4096) :
    Calls Tryd.prog 69 #[.string ⟨s.toArray⟩] w fun e w' => ListPost w.heap.size (takeTexts n r) e w' ∧ Below w.heap.size w w' := by
  have hc := rtn_any s w hm
  rw [h] at hc
  have hrl := takeNum_len h
  have HC := Lib.hid hc
  clear hc h
  obtain ⟨i0, hi, hz0, hz1, hz2⟩ := info_parts Tryd.infoString
  go_enter Tryd.func69, Tryd.ntmps69
  go_wp2_with fail
  refine HC.out.mono ?_
  rintro e w1 ⟨rfl, hb⟩
  have HB := Lib.hid hb
  clear hb HC
  simp only [Option.getD_some, Option.isSome_some]
  go_wp2_with fail
  go_loopw [6, 8, 9] (fun rs v i wr => ∃ (q : Nat) (l : List (List UInt8)) (rest : List UInt8), q ≤ n ∧ i = .int .i64 q ∧ rs = .string ⟨rest.toArray⟩ ∧ takeTexts q r = some (l, rest) ∧ OwnS w.heap.size v l wr ∧ Below w.heap.size w wr) (fun _ _ i _ => n - (intOf i).toNat)
  case atStart => exact ⟨0, [], r, Nat.zero_le _, rfl, rfl, rfl, OwnS.nil _ _, HB.out⟩
  case round =>
    obtain ⟨q, l, rest, hq, rfl, rfl, htk, hown, hbel⟩ := hrel
    have hll : l.length = q := (takeTexts_some _ _ _ _ htk).2
    have hrest := takeTexts_len htk
    have HT := Lib.hid htk
    have HL := Lib.hid hll
    have HO := Lib.hid hown
    have HB1 := Lib.hid hbel
    obtain ⟨ao, cap, hv⟩ := hown.form
    subst hv
    clear htk hll hown hbel
    by_cases hlt : q < n
    · have hct := rtt_any rest wr (by omega)
      cases htt : takeText rest with
      | none =>
        rw [htt] at hct
        have HN := Lib.hid (takeTexts_stop HT.out htt hlt)
        have HCT := Lib.hid hct
        clear hct htt
        go_wp2_with fail
        refine HCT.out.mono ?_
        rintro e w2 ⟨rfl, hb2⟩
        have HB2 := Lib.hid (HB1.out.trans (hb2.mono HB1.out.size))
        clear hb2 HCT HB1
        simp only [Option.getD_none, Option.isSome_none]
        go_wp2_with fail
        go_ret3
        rw [HN.out]
        exact ⟨⟨_, rfl, OwnS.nil _ _⟩, HB2.out⟩
      | some p =>
        obtain ⟨t, r2⟩ := p
        rw [htt] at hct
        have HN := Lib.hid (takeTexts_next HT.out htt)
        have HCT := Lib.hid hct
        have hll2 : l.length ≤ 4096 := by have := HL.out; omega
        clear hct htt
        go_wp2_with fail
        refine HCT.out.mono ?_
        rintro e w2 ⟨rfl, hb2⟩
        have HO2 := Lib.hid (HO.out.below hb2)
        have HB2 := Lib.hid (HB1.out.trans (hb2.mono HB1.out.size))
        have hsz := HB2.out.size
        clear hb2 HCT HB1 HO
        simp only [Option.getD_some, Option.isSome_some]
        go_wp2_with (at_builtin; refine wpList_append_own _ rfl _ _ 78 rfl w.heap.size 9 i0 (.string ⟨#[]⟩) 1 16 Tryd.underlying78 hi hz0 hz1 hz2 rfl (by decide) _ _ _ rfl (World.ownsRow.alloc HO2.out _) ⟨w2.heap.size, 0, none⟩ 1 1 [.string ⟨t.toArray⟩] rfl rfl ?c1 ?c2 ?c3 ?c4 ?c5 ?_)
        case c1 =>
          intro j u hj
          match j, hj with
          | 0, hj => simp at hj; subst hj; simp [Addr.add]
        case c2 => intro u hu; simp at hu; subst hu; rfl
        case c3 => unfold maxLen; omega
        case c4 => omega
        case c5 => simp; omega
        intro v' w3 hown' hgrow _
        have hrow : ∀ g, (Value.slice ao l.length cap).ownBlock = some g → w.heap.size ≤ g := fun g hg => (HO2.out.lt g hg).1
        have HB3 := Lib.hid ((HB2.out.alloc hsz _).grown hgrow (by simp; omega) hrow)
        have HO3 := Lib.hid (show OwnS w.heap.size v' (l ++ [t]) w3 by
          unfold OwnS
          rw [strs_snoc, List.length_append]
          exact hown')
        clear hown' hgrow hrow HO2 HB2 hsz
        go_wp2_with fail
        refine ⟨⟨q + 1, l ++ [t], r2, by omega, by go_num, rfl, HN.out, HO3.out, HB3.out⟩, by simp [intOf]; omega⟩
    · obtain rfl : q = n := by omega
      go_wp2_with fail
      go_ret3
      rw [HT.out]
      exact ⟨⟨_, rfl, HO.out⟩, HB1.out⟩
theorem rtl_any (s : List UInt8) (w : World) (hm : s.length ≤ 9223372036854775000) :
    Calls Tryd.prog 69 #[.string ⟨s.toArray⟩] w fun e w' => ListPost w.heap.size (takeList s) e w' ∧ Below w.heap.size w w' := by
  cases h : takeNum s with
  | none =>
    have ht : takeList s = none := by simp only [takeList, h]
    rw [ht]
    exact rtl_none s w hm h
  | some p =>
    obtain ⟨n, r⟩ := p
    by_cases hn : n ≤ 4096
    · have ht : takeList s = takeTexts n r := by simp only [takeList, h, hn, if_true]
      rw [ht]
      exact rtl_texts s r n w hm h hn
    · have ht : takeList s = none := by simp only [takeList, h, hn, if_false]
      rw [ht]
      exact rtl_many s r n w hm h (by omega)
def SplitPost (B : Nat) (o : Option (List (List UInt8))) (e : Ending) (w' : World) : Prop :=
  ∃ v, e = .returned (.tuple #[v, .bool o.isSome]) ∧ OwnS B v (o.getD []) w'
theorem rsplit_long (s : List UInt8) (w : World) (hm : s.length ≤ 9223372036854775000) (h : 262144 < s.length) :
    Calls Tryd.prog 40 #[.string ⟨s.toArray⟩] w fun e w' => SplitPost w.heap.size (splitB s) e w' ∧ Below w.heap.size w w' := by
  have e : splitB s = none := by simp only [splitB, h, if_true]
  rw [e]
  go_enter Tryd.func40, Tryd.ntmps40
  go_wp2_with fail
  go_ret2
  exact ⟨⟨_, rfl, OwnS.nil _ _⟩, Below.refl _ _⟩
theorem rsplit_any (s : List UInt8) (w : World) (hm : s.length ≤ 9223372036854775000) :
    Calls Tryd.prog 40 #[.string ⟨s.toArray⟩] w fun e w' => SplitPost w.heap.size (splitB s) e w' ∧ Below w.heap.size w w' := by
  by_cases hlong : 262144 < s.length
  · exact rsplit_long s w hm hlong
  · have HC := Lib.hid (rtl_any s w hm)
    cases ht : takeList s with
    | none =>
      have e : splitB s = none := by simp only [splitB, hlong, if_false, ht]
      rw [e]
      rw [ht] at HC
      clear e ht
      go_enter Tryd.func40, Tryd.ntmps40
      go_wp2_with fail
      refine HC.out.mono ?_
      rintro e w1 ⟨⟨v, rfl, ho⟩, hb⟩
      have HB := Lib.hid hb
      clear hb HC ho
      simp only [Option.getD_none, Option.isSome_none]
      go_wp2_with fail
      go_ret2
      exact ⟨⟨_, rfl, OwnS.nil _ _⟩, HB.out⟩
    | some p =>
      obtain ⟨l, r⟩ := p
      rw [ht] at HC
      cases r with
      | nil =>
        have e : splitB s = some l := by simp only [splitB, hlong, if_false, ht]
        rw [e]
        clear e ht
        go_enter Tryd.func40, Tryd.ntmps40
        go_wp2_with fail
        refine HC.out.mono ?_
        rintro e w1 ⟨⟨v, rfl, ho⟩, hb⟩
        have HB := Lib.hid hb
        have HO := Lib.hid ho
        clear hb HC ho
        simp only [Option.getD_some, Option.isSome_some]
        go_wp2_with fail
        go_ret2
        exact ⟨⟨_, rfl, HO.out⟩, HB.out⟩
      | cons c r =>
        have e : splitB s = none := by simp only [splitB, hlong, if_false, ht]
        rw [e]
        clear e ht
        go_enter Tryd.func40, Tryd.ntmps40
        go_wp2_with fail
        refine HC.out.mono ?_
        rintro e w1 ⟨⟨v, rfl, ho⟩, hb⟩
        have HB := Lib.hid hb
        clear hb HC ho
        simp only [Option.getD_some, Option.isSome_some]
        go_wp2_with fail
        go_ret2
        exact ⟨⟨_, rfl, OwnS.nil _ _⟩, HB.out⟩
end Go.Proofs.YtpfhlhcnmeodbaaDoor
namespace Go.Proofs.YtpfhlhcnmeodbaaDoor
open Go.RowKit
def openN (k : List UInt8) : Nat := (rdNum k).1
theorem openN_lt (k : List UInt8) : openN k < 9223372036854775808 := by
  unfold openN rdNum
  cases h : takeNum k with
  | none => decide
  | some p => obtain ⟨n, r⟩ := p; exact takeNum_lt h
theorem openN_all {k : List UInt8} {n : Nat} (h : allNum k = some n) : openN k = n := by
  unfold allNum at h
  split at h
  · rename_i m hm
    simp only [Option.some.injEq] at h
    rw [openN, rdNum, hm, ← h]
  · cases h
theorem all_openN {k : List UInt8} (h : numB (openN k) = k) : allNum k = some (openN k) := by
  have := allNum_numB (openN_lt k)
  rwa [h] at this
def refP (r : List UInt8) : List Nat := byteNs (r.take 32) ++ (List.replicate 32 0).drop r.length
theorem refP_ok (r : List UInt8) : IdOk (refP r) := by
  refine ⟨?_, fun x hx => ?_⟩
  · rw [refP, List.length_append, byteNs_len, List.length_take, List.length_drop, List.length_replicate]
    omega
  · rcases List.mem_append.1 hx with hx | hx
    · exact byteNs_lt _ x hx
    · rw [(List.mem_replicate.1 (List.mem_of_mem_drop hx)).2]
      decide
theorem refP_full {r : List UInt8} (h : r.length = 32) : refP r = byteNs r := by
  rw [refP, List.take_of_length_le (by omega), List.drop_of_length_le (by rw [List.length_replicate]; omega), List.append_nil]
end Go.Proofs.YtpfhlhcnmeodbaaDoor
namespace Go.Proofs.YtpfhlhcnmeodbaaDoor
open Go.RowKit
theorem numI_open {k : List UInt8} {n : Int} (h : numI k = n) (h0 : 0 ≤ n) : (openN k : Int) = n := by
  unfold numI at h
  split at h
  · rename_i m hm
    rw [openN_all hm, h]
  · omega
end Go.Proofs.YtpfhlhcnmeodbaaDoor
namespace Go.Proofs.YtpfhlhcnmeodbaaDoor
open Go.RowKit
def devA (a b r g : List UInt8) : AuthN := ⟨openN a, openN b, refP r, g⟩
theorem readA_dev {s a b r g : List UInt8} (hs : splitB s = some [a, b, r, g]) :
    readA s = if authB (devA a b r g) = s ∧ openN a < 5 ∧ g.length ≤ 1024 then some (devA a b r g) else none := by
  have hp := split_parts hs
  by_cases h : authB (devA a b r g) = s ∧ openN a < 5 ∧ g.length ≤ 1024
  · rw [if_pos h]
    have h1 := splitB_some hs
    have h2 : listB [numB (openN a), numB (openN b), txt (refP r), g] = listB [a, b, r, g] := by
      rw [h1]
      exact h.1
    have l1 := hp a (by simp)
    have l2 := hp b (by simp)
    have l3 := hp r (by simp)
    have l4 := hp g (by simp)
    have l5 := numB_len9 (openN_lt a)
    have l6 := numB_len9 (openN_lt b)
    have l7 := (refP_ok r).1
    have h3 := listB_inj (by simp) (by simp) (fun t ht => by simp only [List.mem_cons, List.not_mem_nil, or_false] at ht; rcases ht with rfl | rfl | rfl | rfl <;> first | omega | (rw [txt_len]; omega)) (fun t ht => by simp only [List.mem_cons, List.not_mem_nil, or_false] at ht; rcases ht with rfl | rfl | rfl | rfl <;> omega) h2
    simp only [List.cons.injEq, and_true] at h3
    obtain ⟨ha, hb, hr⟩ := h3
    have hr32 : r.length = 32 := by rw [← hr, txt_len, l7]
    have na : numI a = openN a := by rw [numI, all_openN ha]
    have nb : numI b = openN b := by rw [numI, all_openN hb]
    unfold readA
    rw [hs]
    simp only [na, nb]
    rw [if_pos ⟨hr32, h.2.2, by omega, by omega, by omega⟩, devA, refP_full hr32]
  · rw [if_neg h]
    cases hd : readA s with
    | none => rfl
    | some d =>
      exfalso
      have h1 := readA_some hd
      have e : d = devA a b r g := by
        unfold readA at hd
        rw [hs] at hd
        simp only at hd
        split at hd
        · rename_i hc
          obtain ⟨c1, c2, c3, c4, c5⟩ := hc
          simp only [Option.some.injEq] at hd
          rw [← hd, devA, numI_open rfl c3, numI_open rfl c5, refP_full c1]
        · cases hd
      rw [e] at h1
      have h5 := h1.2.2.2.2.1
      simp only [devA] at h5
      exact h ⟨h1.1, by omega, h1.2.2.1⟩
theorem readA_other {s : List UInt8} {l : List (List UInt8)} (hs : (splitB s).getD [] = l) (h : l.length ≠ 4) : readA s = none := by
  unfold readA
  split
  · rename_i a b r g hq
    rw [hq] at hs
    simp only [Option.getD_some] at hs
    rw [← hs] at h
    exact absurd rfl h
  · rfl
theorem split_of {s : List UInt8} {l : List (List UInt8)} (hs : (splitB s).getD [] = l) (h : l ≠ []) : splitB s = some l := by
  cases hq : splitB s with
  | none => rw [hq] at hs; exact absurd hs.symm h
  | some m => rw [hq] at hs; rw [← hs]; rfl
end Go.Proofs.YtpfhlhcnmeodbaaDoor
namespace Go.Proofs.YtpfhlhcnmeodbaaDoor
open Go.RowKit
theorem end_failed (b : Nat) (s : List UInt8) (w : World) (h : Rd b s true w) :
    Calls Tryd.prog 67 #[.pointer (some ⟨b, 0, none⟩)] w fun e w' => e = .returned (.int .i64 4) ∧ w' = w := by
  have g1 := h.cell1
  clear h
  go_enter Tryd.func67, Tryd.ntmps67
  go_wp2_with fail
  go_ret
  exact ⟨rfl, rfl⟩
theorem end_rest (b : Nat) (s : List UInt8) (w : World) (h : Rd b s false w) (hs : s ≠ []) :
    Calls Tryd.prog 67 #[.pointer (some ⟨b, 0, none⟩)] w fun e w' => e = .returned (.int .i64 4) ∧ w' = w := by
  have g0 := h.cell0
  have g1 := h.cell1
  have hne : (!s.isEmpty) = true := by cases s <;> simp_all
  clear h hs
  go_enter Tryd.func67, Tryd.ntmps67
  go_wp2_with fail
  go_ret
  exact ⟨rfl, rfl⟩
theorem end_ok (b : Nat) (w : World) (h : Rd b [] false w) :
    Calls Tryd.prog 67 #[.pointer (some ⟨b, 0, none⟩)] w fun e w' => e = .returned (.int .i64 0) ∧ w' = w := by
  have g0 := h.cell0
  have g1 := h.cell1
  clear h
  go_enter Tryd.func67, Tryd.ntmps67
  go_wp2_with fail
  go_ret
  exact ⟨rfl, rfl⟩
def endCode (s : List UInt8) (f : Bool) : Int := if f then 4 else if s = [] then 0 else 4
theorem end_any (b : Nat) (s : List UInt8) (f : Bool) (w : World) (h : Rd b s f w) :
    Calls Tryd.prog 67 #[.pointer (some ⟨b, 0, none⟩)] w fun e w' => e = .returned (.int .i64 (endCode s f)) ∧ w = w' := by
  unfold endCode
  cases f with
  | true => exact (end_failed b s w h).mono fun e w' ⟨he, hw⟩ => ⟨he, hw.symm⟩
  | false =>
    by_cases hs : s = []
    · subst hs; exact (end_ok b w h).mono fun e w' ⟨he, hw⟩ => ⟨he, hw.symm⟩
    · simp only [hs, if_false, Bool.false_eq_true]; exact (end_rest b s w h hs).mono fun e w' ⟨he, hw⟩ => ⟨he, hw.symm⟩
end Go.Proofs.YtpfhlhcnmeodbaaDoor
namespace Go.Proofs.YtpfhlhcnmeodbaaDoor
open Go.RowKit
theorem clone_any (s : ByteArray) (w : World) (hlim : s.size ≤ 281474976710656) :
    Calls Tryd.prog 52 #[.string s] w fun e w' => e = .returned (.string s) ∧ Below w.heap.size w w' := by
  go_enter Tryd.func52, Tryd.ntmps52
  go_wp2_with fail
  refine (Tryd.stringslite_Clone s _ hlim).mono ?_
  rintro e w1 ⟨rfl, hb⟩
  have HB := Lib.hid hb
  clear hb
  go_wp2_with fail
  go_ret
  exact ⟨rfl, HB.out⟩
def rdTake (s : List UInt8) (f : Bool) (n : Nat) : List UInt8 × List UInt8 × Bool := if n ≤ s.length then (s.take n, s.drop n, f) else ([], [], true)
theorem take_any (b : Nat) (s : List UInt8) (f : Bool) (n : Nat) (w : World) (h : Rd b s f w) :
    Calls Tryd.prog 104 #[.pointer (some ⟨b, 0, none⟩), .int .i64 n] w fun e w' => e = .returned (.string ⟨(rdTake s f n).1.toArray⟩) ∧ Rd b (rdTake s f n).2.1 (rdTake s f n).2.2 w' ∧ But b w w' := by
  unfold rdTake
  by_cases hn : n ≤ s.length
  · simp only [hn, if_true]; exact take_some b s f n w h hn
  · simp only [hn, if_false]; exact take_few b s f n w h (by omega)
theorem rdTake_length (s : List UInt8) (f : Bool) (n : Nat) : (rdTake s f n).1.length ≤ s.length ∧ (rdTake s f n).2.1.length ≤ s.length := by
  unfold rdTake
  split <;> simp
  omega
theorem rdNum_length (s : List UInt8) : (rdNum s).2.1.length ≤ s.length := by
  unfold rdNum
  split
  · rename_i n r h; have := takeNum_len h; simp only; omega
  · simp
def rdText (s : List UInt8) : List UInt8 × List UInt8 × Bool := match takeText s with | some (t, r) => (t, r, false) | none => ([], [], true)
theorem rdText_eq (s : List UInt8) : rdText s = rdTake (rdNum s).2.1 (rdNum s).2.2 (rdNum s).1 := by
  unfold rdText takeText rdNum
  cases h : takeNum s with
  | none => simp [rdTake]
  | some p =>
    obtain ⟨n, r⟩ := p
    simp only [rdTake]
    by_cases hn : n ≤ r.length <;> simp [hn]
theorem rdText_length (s : List UInt8) : (rdText s).1.length ≤ s.length ∧ (rdText s).2.1.length ≤ s.length := by
  rw [rdText_eq]
  have := rdNum_length s
  have := rdTake_length (rdNum s).2.1 (rdNum s).2.2 (rdNum s).1
  omega
theorem rtext_any (b : Nat) (s : List UInt8) (f : Bool) (w : World) (h : Rd b s f w) (hf : f = true → s = []) (hs : s.length ≤ 262144) :
    Calls Tryd.prog 103 #[.pointer (some ⟨b, 0, none⟩)] w fun e w' => e = .returned (.string ⟨(rdText s).1.toArray⟩) ∧ Rd b (rdText s).2.1 (rdText s).2.2 w' ∧ But b w w' := by
  have hl := (rdText_length s).1
  rw [rdText_eq] at hl ⊢
  have H := Lib.hid h
  have HF := Lib.hid hf
  clear h hf
  go_enter Tryd.func103, Tryd.ntmps103
  go_wp2_with fail
  refine (rnum_any b s f _ H.out HF.out).mono ?_
  rintro e w1 ⟨rfl, h1, hb1⟩
  have H1 := Lib.hid h1
  have HB1 := Lib.hid hb1
  clear h1 hb1 H
  go_wp2_with fail
  refine (take_any b _ _ _ _ H1.out).mono ?_
  rintro e w2 ⟨rfl, h2, hb2⟩
  have HB2 := Lib.hid (HB1.out.trans hb2)
  have H2 := Lib.hid h2
  clear h2 hb2 HB1 H1
  go_wp2_with fail
  refine (clone_any _ _ (by show (List.toArray _).size ≤ _; simp; omega)).mono ?_
  rintro e w3 ⟨rfl, hb3⟩
  have H3 := Lib.hid (H2.out.below hb3)
  have HB3 := Lib.hid (HB2.out.below hb3)
  clear hb3 H2 HB2
  go_wp2_with fail
  go_ret
  exact ⟨rfl, H3.out, HB3.out⟩
end Go.Proofs.YtpfhlhcnmeodbaaDoor
namespace Go.Proofs.YtpfhlhcnmeodbaaDoor
open Go.RowKit
def rdList (s : List UInt8) : List (List UInt8) × List UInt8 × Bool := match takeList s with | some (l, r) => (l, r, false) | none => ([], [], true)
theorem rlist_many (b : Nat) (s : List UInt8) (f : Bool) (w : World) (h : Rd b s f w) (hf : f = true → s = []) (hn : 4096 < (rdNum s).1) (hlt : (rdNum s).1 < 9223372036854775808) :
    Calls Tryd.prog 66 #[.pointer (some ⟨b, 0, none⟩)] w fun e w' => e = .returned (.slice none 0 0) ∧ Rd b [] true w' ∧ But b w w' := by
  have H := Lib.hid h
  have HF := Lib.hid hf
  clear h hf
  go_enter Tryd.func66, Tryd.ntmps66
  go_wp2_with fail
  refine (rnum_any b s f _ H.out HF.out).mono ?_
  rintro e w1 ⟨rfl, h1, hb1⟩
  have H1 := Lib.hid h1
  have HB1 := Lib.hid hb1
  clear h1 hb1 H
  go_wp2_with fail
  refine (fail_any b _ _ _ H1.out).mono ?_
  rintro e w2 ⟨rfl, h2, hb2⟩
  have H2 := Lib.hid h2
  have HB2 := Lib.hid (HB1.out.trans hb2)
  clear h2 hb2 HB1 H1
  go_wp2_with fail
  go_ret
  exact ⟨rfl, H2.out, HB2.out⟩
def TextsPost (B b : Nat) (f1 : Bool) (o : Option (List (List UInt8) × List UInt8)) (v : Value) (w' : World) : Prop :=
  match o with
  | some (l, q) => OwnS B v l w' ∧ Rd b q f1 w'
  | none => v = .slice none 0 0 ∧ Rd b [] true w'
set_option maxHeartbeats 1000000 in
set_option maxRecDepth 100000 in
theorem rlist_texts (b : Nat) (s r : List UInt8) (f f1 : Bool) (n : Nat) (w : World) (h : Rd b s f w) (hf : f = true → s = []) (hs : s.length ≤ 262144) (hn : rdNum s = (n, r, f1)) (h4 : n ≤ 4096) (hf1 : f1 = true → n = 0 ∧ r = []) :
    Calls Tryd.prog 66 #[.pointer (some ⟨b, 0, none⟩)] w fun e w' => ∃ v, e = .returned v ∧ But b w w' ∧ TextsPost w.heap.size b f1 (takeTexts n r) v w' := by
  have hr : r.length ≤ 262144 := by have := rdNum_length s; rw [hn] at this; simp only at this; omega
  have hblt := h.lt
  have hcall := rnum_any b s f w h hf
  rw [hn] at hcall
  have HC := Lib.hid hcall
  have HF := Lib.hid hf1
  clear hcall hf hn hs h hf1
  obtain ⟨i0, hi, hz0, hz1, hz2⟩ := info_parts Tryd.infoString
  go_enter Tryd.func66, Tryd.ntmps66
  go_wp2_with fail
  refine HC.out.mono ?_
  rintro e w1 ⟨rfl, h1, hb1⟩
  have H1 := Lib.hid h1
  have HB1 := Lib.hid hb1
  clear h1 hb1 HC
  go_wp2_with fail
  go_loopw [4, 14] (fun v i wr => ∃ (q : Nat) (l : List (List UInt8)) (rest : List UInt8), q ≤ n ∧ i = .int .i64 q ∧ takeTexts q r = some (l, rest) ∧ OwnS w.heap.size v l wr ∧ Rd b rest f1 wr ∧ But b w wr) (fun _ i _ => n - (intOf i).toNat)
  case atStart => exact ⟨0, [], r, Nat.zero_le _, rfl, rfl, OwnS.nil _ _, H1.out, HB1.out⟩
  case round =>
    obtain ⟨q, l, rest, hq, rfl, htk, hown, hrd, hbut⟩ := hrel
    have hll : l.length = q := (takeTexts_some _ _ _ _ htk).2
    have hrest := takeTexts_len htk
    by_cases hlt : q < n
    · have f10 : f1 = false := by cases f1 with | false => rfl | true => have := (HF.out rfl).1; omega
      subst f10
      have HT := Lib.hid htk
      have HL := Lib.hid hll
      have HO := Lib.hid hown
      have HR := Lib.hid hrd
      have HB := Lib.hid hbut
      obtain ⟨ao, cap, hv⟩ := hown.form
      subst hv
      clear htk hll hown hrd hbut
      go_wp2_with fail
      refine (rtext_any b rest false _ HR.out (fun h => by cases h) (by omega)).mono ?_
      rintro e w2 ⟨rfl, h2, hb2⟩
      have H2 := Lib.hid h2
      have HB2 := Lib.hid (HB.out.trans hb2)
      have HO2 := Lib.hid (HO.out.but hb2 hblt)
      have hsz := hb2.size
      have hszw := HB.out.size
      have hll2 : l.length ≤ 4096 := by have := HL.out; omega
      clear h2 hb2 HB HO HR
      go_wp2_with (at_builtin; refine wpList_append_own _ rfl _ _ 78 rfl w.heap.size 9 i0 (.string ⟨#[]⟩) 1 16 Tryd.underlying78 hi hz0 hz1 hz2 rfl (by decide) _ _ _ rfl (World.ownsRow.alloc HO2.out _) ⟨w2.heap.size, 0, none⟩ 1 1 [.string ⟨(rdText rest).1.toArray⟩] rfl rfl ?c1 ?c2 ?c3 ?c4 ?c5 ?_)
      case c1 =>
        intro j u hj
        match j, hj with
        | 0, hj => simp at hj; subst hj; simp [Addr.add]
      case c2 => intro u hu; simp at hu; subst hu; rfl
      case c3 => unfold maxLen; omega
      case c4 => omega
      case c5 => simp; omega
      intro v' w3 hown' hgrow _
      have hrow : ∀ g, (Value.slice ao l.length cap).ownBlock = some g → w.heap.size ≤ g := fun g hg => (HO2.out.lt g hg).1
      have H3 := Lib.hid (show Rd b (rdText rest).2.1 (rdText rest).2.2 w3 from (hgrow.block b (by simp; omega) (fun e => by have := hrow b e.symm; omega)).trans ((Lib.alloc_old w2 _ b (by omega)).trans H2.out))
      have HB3 := Lib.hid (show But b w w3 from ⟨hgrow.os.trans HB2.out.os, hgrow.tape.trans HB2.out.tape, hgrow.output.trans HB2.out.output, by have := hgrow.size; simp at this; omega, fun k hk hkb => by
        rw [hgrow.block k (by simp; omega) (fun e => by have := hrow k e.symm; omega), Lib.alloc_old w2 _ k (by omega)]
        exact HB2.out.block k hk hkb⟩)
      have HO3 := Lib.hid (show OwnS w.heap.size v' (l ++ [(rdText rest).1]) w3 by
        unfold OwnS
        rw [strs_snoc, List.length_append]
        exact hown')
      have HTs := Lib.hid (takeTexts_succ q r)
      have g1 := H3.out.cell1
      clear hown' hgrow hrow H2 HB2 HO2 hsz hszw
      cases htt : takeText rest with
      | none =>
        have e3 : rdText rest = ([], [], true) := by simp only [rdText, htt]
        rw [e3] at H3 HO3 g1 ⊢
        have HN := Lib.hid (show takeTexts n r = none from takeTexts_none_mono (k := q + 1) (by rw [HTs.out, HT.out]; simp only [htt]) n (by omega))
        clear htt e3
        go_wp2_with fail
        go_ret
        refine ⟨_, rfl, HB3.out, ?_⟩
        rw [HN.out]
        exact ⟨rfl, H3.out⟩
      | some p =>
        obtain ⟨t, r2⟩ := p
        have e3 : rdText rest = (t, r2, false) := by simp only [rdText, htt]
        rw [e3] at H3 HO3 g1 ⊢
        have HN := Lib.hid (show takeTexts (q + 1) r = some (l ++ [t], r2) by rw [HTs.out, HT.out]; simp only [htt])
        clear htt e3
        go_wp2_with fail
        refine ⟨⟨q + 1, l ++ [t], r2, by omega, by go_num, HN.out, HO3.out, H3.out, HB3.out⟩, by simp [intOf]; omega⟩
    · obtain rfl : q = n := by omega
      have HT := Lib.hid htk
      have HO := Lib.hid hown
      have HR := Lib.hid hrd
      have HB := Lib.hid hbut
      clear htk hll hown hrd hbut
      go_wp2_with fail
      go_ret
      refine ⟨_, rfl, HB.out, ?_⟩
      rw [HT.out]
      exact ⟨HO.out, HR.out⟩
theorem rlist_any (b : Nat) (s : List UInt8) (f : Bool) (w : World) (h : Rd b s f w) (hf : f = true → s = []) (hs : s.length ≤ 262144) :
    Calls Tryd.prog 66 #[.pointer (some ⟨b, 0, none⟩)] w fun e w' => ∃ v, e = .returned v ∧ OwnS w.heap.size v (rdList s).1 w' ∧ Rd b (rdList s).2.1 (rdList s).2.2 w' ∧ But b w w' := by
  cases hn : takeNum s with
  | none =>
    have e1 : rdNum s = (0, [], true) := by simp only [rdNum, hn]
    have e2 : rdList s = ([], [], true) := by simp only [rdList, takeList, hn]
    rw [e2]
    refine (rlist_texts b s [] f true 0 w h hf hs e1 (by omega) (fun _ => ⟨rfl, rfl⟩)).mono ?_
    rintro e w' ⟨v, rfl, hb, ho, hr⟩
    exact ⟨v, rfl, ho, hr, hb⟩
  | some p =>
    obtain ⟨n, r⟩ := p
    have e1 : rdNum s = (n, r, false) := by simp only [rdNum, hn]
    by_cases h4 : n ≤ 4096
    · refine (rlist_texts b s r f false n w h hf hs e1 h4 (fun h => by cases h)).mono ?_
      rintro e w' ⟨v, rfl, hb, hm⟩
      have e2 : rdList s = (match takeTexts n r with | some (l, q) => (l, q, false) | none => ([], [], true)) := by
        simp only [rdList, takeList, hn, h4, if_true]
      rw [e2]
      cases ht : takeTexts n r with
      | none =>
        rw [ht] at hm
        obtain ⟨rfl, hr⟩ := hm
        exact ⟨_, rfl, OwnS.nil _ _, hr, hb⟩
      | some p =>
        obtain ⟨l, q⟩ := p
        rw [ht] at hm
        exact ⟨v, rfl, hm.1, hm.2, hb⟩
    · have e2 : rdList s = ([], [], true) := by simp only [rdList, takeList, hn, h4, if_false]
      rw [e2]
      refine (rlist_many b s f w h hf (by rw [e1]; simp only; omega) (by rw [e1]; exact takeNum_lt hn)).mono ?_
      rintro e w' ⟨rfl, hr, hb⟩
      exact ⟨_, rfl, OwnS.nil _ _, hr, hb⟩
end Go.Proofs.YtpfhlhcnmeodbaaDoor
namespace Go.Proofs.YtpfhlhcnmeodbaaDoor
open Go.RowKit
def SplitEnd (B : Nat) (o : Option (List (List UInt8))) (e : Ending) (w' : World) : Prop :=
  ∃ v, e = .returned (.tuple #[v, .int .i64 (if o.isSome then 0 else 4)]) ∧ OwnS B v (o.getD []) w'
theorem endCode_split {s : List UInt8} (hs : ¬ 262144 < s.length) : endCode (rdList s).2.1 (rdList s).2.2 = if (splitB s).isSome then 0 else 4 := by
  unfold splitB rdList endCode
  rw [if_neg hs]
  cases h : takeList s with
  | none => simp
  | some p =>
    obtain ⟨l, r⟩ := p
    cases r <;> simp
theorem rdList_split {s : List UInt8} {l : List (List UInt8)} (h : splitB s = some l) : (rdList s).1 = l := by
  unfold splitB at h
  split at h
  · cases h
  · unfold rdList
    cases ht : takeList s with
    | none => rw [ht] at h; cases h
    | some p =>
      obtain ⟨l', r⟩ := p
      rw [ht] at h
      cases r with
      | nil => simpa using h
      | cons => cases h
theorem split_long (s : List UInt8) (w : World) (hm : s.length ≤ 9223372036854775807) (h : 262144 < s.length) :
    Calls Tryd.prog 38 #[.string ⟨s.toArray⟩] w fun e w' => SplitEnd w.heap.size (splitB s) e w' ∧ Below w.heap.size w w' := by
  have e : splitB s = none := by simp only [splitB, h, if_true]
  rw [e]
  go_enter Tryd.func38, Tryd.ntmps38
  go_wp2_with fail
  refine (open_long s _ h hm).mono ?_
  rintro e w1 ⟨rfl, hr, hb⟩
  have HR := Lib.hid hr
  have HB := Lib.hid hb
  clear hr hb
  go_wp2_with fail
  have c := rlist_any _ [] true _ HR.out (fun _ => rfl) (by simp)
  rw [show rdList [] = ([], [], true) from rfl] at c
  refine c.mono ?_
  rintro e w2 ⟨v, rfl, ho, hr2, hb2⟩
  have HR2 := Lib.hid hr2
  have HB2 := Lib.hid (hb2.toBelow HB.out (Nat.le_refl _) HB.out.size)
  clear c ho hr2 hb2 HR HB
  go_wp2_with fail
  refine (end_failed _ _ _ HR2.out).mono ?_
  rintro e w3 ⟨rfl, rfl⟩
  go_wp2_with fail
  go_ret2
  exact ⟨⟨_, rfl, OwnS.nil _ _⟩, HB2.out⟩
theorem split_any (s : List UInt8) (w : World) (hm : s.length ≤ 9223372036854775807) :
    Calls Tryd.prog 38 #[.string ⟨s.toArray⟩] w fun e w' => SplitEnd w.heap.size (splitB s) e w' ∧ Below w.heap.size w w' := by
  by_cases hlong : 262144 < s.length
  · exact split_long s w hm hlong
  · have HE := Lib.hid (endCode_split hlong)
    go_enter Tryd.func38, Tryd.ntmps38
    go_wp2_with fail
    refine (open_ok s _ (by omega)).mono ?_
    rintro e w1 ⟨rfl, hr, hb⟩
    have HR := Lib.hid hr
    have HB := Lib.hid hb
    clear hr hb
    go_wp2_with fail
    refine (rlist_any _ s false _ HR.out (fun h => by cases h) (by omega)).mono ?_
    rintro e w2 ⟨v, rfl, ho, hr2, hb2⟩
    have HR2 := Lib.hid hr2
    have HB2 := Lib.hid (hb2.toBelow HB.out (Nat.le_refl _) HB.out.size)
    have HO2 := Lib.hid (ho.mono HB.out.size)
    obtain ⟨ao, cap, rfl⟩ := ho.form
    clear ho hr2 hb2 HR HB
    go_wp2_with fail
    have c := end_any _ _ _ _ HR2.out
    rw [HE.out] at c
    cases hs : splitB s with
    | none =>
      rw [hs] at c
      have HS := Lib.hid hs
      clear hs
      refine c.mono ?_
      rintro e w3 ⟨rfl, rfl⟩
      clear c
      simp only [Option.isSome_none]
      go_wp2_with fail
      go_ret2
      rw [HS.out]
      exact ⟨⟨_, rfl, OwnS.nil _ _⟩, HB2.out⟩
    | some l =>
      have HL := Lib.hid (rdList_split hs)
      rw [hs] at c
      have HS := Lib.hid hs
      clear hs
      refine c.mono ?_
      rintro e w3 ⟨rfl, rfl⟩
      clear c
      simp only [Option.isSome_some]
      go_wp2_with fail
      go_ret2
      rw [HS.out]
      refine ⟨⟨_, rfl, ?_⟩, HB2.out⟩
      simp only [Option.getD_some]
      rw [← HL.out]
      exact HO2.out
end Go.Proofs.YtpfhlhcnmeodbaaDoor
namespace Go.Proofs.YtpfhlhcnmeodbaaDoor
open Go.RowKit Go.BigFrame
theorem strsGD {ao : Option Addr} {l : List (List UInt8)} {w : World} (h : StrsAt ao l w) (h0 : l ≠ []) : ∃ g o, ao = some ⟨g, o, none⟩ ∧ g < w.heap.size ∧ ∀ i (hi : i < l.length), w.cell? ⟨g, o + i, none⟩ = some (.string ⟨l[i].toArray⟩) := by
  rcases h with h | ⟨b, o, ha, hb, hc⟩
  · exact absurd h h0
  · exact ⟨b, o, ha, hb, hc⟩
end Go.Proofs.YtpfhlhcnmeodbaaDoor
namespace Go.Proofs.YtpfhlhcnmeodbaaDoor
open Go.RowKit Go.BigFrame
def DrA (o : Option AuthN) : Value := .tuple #[.agg (autV (o.getD noA)), .int .i64 (if o.isSome then 0 else 4)]
theorem hash_lay (x y : Int) (p r : List UInt8) : layV (autL ⟨x, y, zeroI, p⟩) 2 (nums .u8 (byteNs (r.take 32))) = autL ⟨x, y, refP r, p⟩ := by
  have hz : nums .u8 zeroI = nums .u8 (zeroI.take r.length) ++ nums .u8 (zeroI.drop r.length) := by rw [nums, nums, nums, ← List.map_append, List.take_append_drop]
  have h := layV_mid (nums .u8 (byteNs (r.take 32))) [.int .i64 x, .int .i64 y] (nums .u8 (zeroI.take r.length)) (nums .u8 (zeroI.drop r.length) ++ [.string ⟨p.toArray⟩]) (by rw [nums_len, nums_len, byteNs_len, List.length_take, List.length_take, zeroI_ok.1]; omega)
  rw [show ([.int .i64 x, .int .i64 y] : List Value).length = 2 from rfl] at h
  rw [show autL ⟨x, y, zeroI, p⟩ = [.int .i64 x, .int .i64 y] ++ (nums .u8 (zeroI.take r.length) ++ (nums .u8 (zeroI.drop r.length) ++ [.string ⟨p.toArray⟩])) by
    rw [← List.append_assoc (nums .u8 (zeroI.take r.length)), ← hz]
    rfl, h]
  have hr : nums .u8 (refP r) = nums .u8 (byteNs (r.take 32)) ++ nums .u8 (zeroI.drop r.length) := by rw [nums, nums, nums, ← List.map_append]; rfl
  simp [autL, hr]
theorem dev_num16 (s : List UInt8) (w : World) (hs : s.length ≤ 262144) :
    Calls Tryd.prog 39 #[.string ⟨s.toArray⟩] w fun e w' => e = .returned (.int .i64 (openN s : Int)) ∧ Below w.heap.size w w' := by
  have HO := Lib.hid (open_ok s w hs)
  clear hs
  go_enter Tryd.func39, Tryd.ntmps39
  go_wp2_with fail
  refine HO.out.mono ?_
  rintro e w1 ⟨rfl, hr, hb⟩
  have HR := Lib.hid hr
  have HB := Lib.hid hb
  clear hr hb HO
  go_wp2_with fail
  refine (rnum_any _ s false w1 HR.out (fun h => by cases h)).mono ?_
  rintro e w2 ⟨rfl, -, hb2⟩
  have HB2 := Lib.hid (hb2.toBelow HB.out (Nat.le_refl _) HB.out.size)
  clear hb2 HR HB
  go_wp2_with fail
  go_ret
  exact ⟨rfl, HB2.out⟩
set_option maxHeartbeats 8000000 in
set_option maxRecDepth 100000 in
theorem dev_readAuth16 (s : List UInt8) (w : World) (hm : s.length ≤ 1000000) :
    Calls Tryd.prog 14 #[.string ⟨s.toArray⟩] w fun e w' => e = .returned (DrA (readA s)) ∧ Below w.heap.size w w' := by
  have HS := Lib.hid (sizeAV (a := noA) zeroI_ok)
  have HZE := Lib.hid (show (Tryd.prog.info? 26).bind (·.zero) = some (.agg (autL noA).toArray) by kernel_rfl)
  have HM := Lib.hid hm
  clear hm
  go_enter Tryd.func14, Tryd.ntmps14
  go_upto_region 1 with (first | (refine wpList_alloc_of rfl 26 rfl (autL noA) HZE.out ?_))
  have hx : Cells w.heap.size 26 (autV noA) (w.alloc (.cells (autV noA) 26)) := heap_alloc_new w _
  have hb : Below w.heap.size w (w.alloc (.cells (autV noA) 26)) := (Below.refl _ _).alloc (Nat.le_refl _) _
  change Code.wp _ _ _ _ (w.alloc (.cells (autV noA) 26))
  obtain ⟨w0, hw1⟩ : ∃ x, x = w.alloc (.cells (autV noA) 26) := ⟨_, rfl⟩
  rw [← hw1] at hx hb ⊢
  have HX := Lib.hid hx
  have HB := Lib.hid hb
  clear hw1 hx hb
  go_wp2_with fail
  obtain ⟨q, hq⟩ : ∃ q, (splitB s).getD [] = q := ⟨_, rfl⟩
  have HL := Shut.mk hq
  obtain ⟨ec, hec⟩ : ∃ x : Int, (if (splitB s).isSome then (0 : Int) else 4) = x := ⟨_, rfl⟩
  have hcc := split_any s w0 (by have := HM.out; omega)
  unfold SplitEnd at hcc
  rw [hq, hec] at hcc
  clear hq hec
  refine hcc.mono ?_
  rintro e w1 ⟨⟨v, rfl, ho⟩, hb⟩
  obtain ⟨ao, cq, rfl⟩ := ho.form
  have HXQ := Lib.hid (HX.out.below hb)
  have HBQ := Lib.hid (HB.out.trans (hb.mono HB.out.size))
  have HSA := Lib.hid (strsAt_own ho)
  clear hcc ho hb HX HB
  obtain ⟨n, hn⟩ : ∃ n, q.length = n := ⟨_, rfl⟩
  rw [hn]
  by_cases h4 : n = 4
  case neg =>
    have hni : ((n : Int) != 4) = true := by simp; omega
    have HR := Shut.mk (readA_other HL.out (by omega))
    clear HSA h4 hn
    go_upto_region 3 with (fail)
    refine wp_region_lit ?_
    refine wpList_build_val rfl 26 #[] rfl [] _ (by simp) built_aut0 ?_
    simp only [Act.put, List.setIfInBounds_toArray, List.set_cons_zero, List.set_cons_succ]
    refine wpList_store_cells rfl 26 _ _ rfl rfl w.heap.size (autV noA) (autV noA) 26 rfl rfl HXQ.out HS.out rfl (autV_all noA) ?_
    intro wf hc hb
    have HXF := Lib.hid hc.out
    have HBF := Lib.hid (show Below w.heap.size w wf from But.toBelow HBQ.out hb.out (Nat.le_refl _) HBQ.out.size)
    clear hc hb HXQ HBQ
    go_wp2_with fail
    refine bodyPost_ret (results_cells_tmp rfl _ _ w.heap.size (autV noA) 26 _ _ rfl rfl HXF.out Tryd.underlying26 rfl HS.out) rfl ?_
    exact ⟨by rw [HR.out]; rfl, HBF.out⟩
  obtain ⟨ta, tb, tr, tg, rfl⟩ : ∃ a b r g, q = [a, b, r, g] := by
    rw [h4] at hn
    match q, hn with
    | [a, b, r, g], _ => exact ⟨a, b, r, g, rfl⟩
    | [], h => simp at h
    | [_], h => simp at h
    | [_, _], h => simp at h
    | [_, _, _], h => simp at h
    | _ :: _ :: _ :: _ :: _ :: _, h => simp only [List.length_cons] at h; omega
  have hni : ((n : Int) != 4) = false := by simp [h4]
  have hsp := split_of HL.out (by simp)
  have hlr := split_parts hsp
  have HRR := Shut.mk (readA_dev hsp)
  obtain ⟨g, og, rfl, hg, hc⟩ := strsGD HSA.out (by simp)
  have c1 := hc 0 (by simp)
  have c2 := hc 1 (by simp)
  have c3 := hc 2 (by simp)
  have c4 := hc 3 (by simp)
  simp only [List.getElem_cons_succ, List.getElem_cons_zero, Nat.add_zero] at c1 c2 c3 c4
  have HC0 := Lib.hid (fun (w' : World) (b : Below w1.heap.size w1 w') => (b.cell (p := ⟨g, og, none⟩) hg).trans c1)
  have HC1 := Lib.hid (fun (w' : World) (b : Below w1.heap.size w1 w') => (b.cell (p := ⟨g, og + 1, none⟩) hg).trans c2)
  have HC2 := Lib.hid (fun (w' : World) (b : Below w1.heap.size w1 w') => (b.cell (p := ⟨g, og + 2, none⟩) hg).trans c3)
  have HC3 := Lib.hid (fun (w' : World) (b : Below w1.heap.size w1 w') => (b.cell (p := ⟨g, og + 3, none⟩) hg).trans c4)
  have HGW := Lib.hid hg
  have HNA0 := fun w' => dev_num16 ta w' (hlr ta (by simp))
  have HNB0 := fun w' => dev_num16 tb w' (hlr tb (by simp))
  have HTG := Lib.hid (hlr tg (by simp))
  have HNL0 := openN_lt ta
  have HNL1 := openN_lt tb
  obtain ⟨xa, hxa⟩ : ∃ x, openN ta = x := ⟨_, rfl⟩
  obtain ⟨xb, hxb⟩ : ∃ x, openN tb = x := ⟨_, rfl⟩
  have HDA := Shut.mk (show devA ta tb tr tg = ⟨xa, xb, refP tr, tg⟩ by rw [devA, hxa, hxb])
  rw [hxa] at HNA0 HNL0 HRR
  rw [hxb] at HNB0 HNL1
  have HNA := Lib.hid HNA0
  have HNB := Lib.hid HNB0
  have HI0 := Lib.hid (show ∀ w, (Instr.indexAt 78 (.slice (some ⟨g, og, none⟩) n cq) (.int .i64 0)).run Tryd.prog w = .ok (.pointer (some ⟨g, og, none⟩)) w from fun w => by rw [h4]; go_simp)
  have HI1 := Lib.hid (show ∀ w, (Instr.indexAt 78 (.slice (some ⟨g, og, none⟩) n cq) (.int .i64 1)).run Tryd.prog w = .ok (.pointer (some ⟨g, og + 1, none⟩)) w from fun w => by rw [h4]; go_simp)
  have HI2 := Lib.hid (show ∀ w, (Instr.indexAt 78 (.slice (some ⟨g, og, none⟩) n cq) (.int .i64 2)).run Tryd.prog w = .ok (.pointer (some ⟨g, og + 2, none⟩)) w from fun w => by rw [h4]; go_simp)
  have HI3 := Lib.hid (show ∀ w, (Instr.indexAt 78 (.slice (some ⟨g, og, none⟩) n cq) (.int .i64 3)).run Tryd.prog w = .ok (.pointer (some ⟨g, og + 3, none⟩)) w from fun w => by rw [h4]; go_simp)
  have HAL := Lib.hid (show ∀ w : World, (Instr.alloc 26 true (.tuple #[])).run Tryd.prog w = .ok (.pointer (some ⟨w.heap.size, 0, none⟩)) (w.alloc (.cells (autV noA) 26)) from fun w => by kernel_rfl)
  obtain ⟨d0, hd0⟩ : ∃ d : AuthN, d = ⟨xa, xb, zeroI, tg⟩ := ⟨_, rfl⟩
  have HDD := Shut.mk hd0
  have HO0 := Lib.hid (show IdOk d0.hash by rw [hd0]; exact zeroI_ok)
  have HBD := Lib.hid (show ∀ w, (Instr.build 26 ([(0, .int .i64 (xa : Int)), (1, .int .i64 (xb : Int)), (3, .string ⟨tg.toArray⟩)] : List (Nat × Value)).toArray).run Tryd.prog w = .ok (.agg (autV d0)) w from fun w => by
    have hb := built_aut3 (xa : Int) (xb : Int) tg
    rw [← HDD.out] at hb
    exact run_build w 26 _ _ hb)
  have HDZ := Lib.hid (show Below w1.heap.size w1 w1.drew from (Below.refl _ _).drew)
  have HSD := Lib.hid (sizeAV HO0.out)
  have HSZ := Lib.hid (show (autV noA).size = (autV d0).size by rw [autV_size HO0.out]; rfl)
  clear hd0 c1 c2 c3 c4 hc hg hsp hlr hxa hxb HNA0 HNB0 HL HSA hn h4
  go_upto_region 4 with (fail)
  refine wp_region_free 13 (fun q V w' => Vals q V [(0, .slice (some ⟨g, og, none⟩) n cq), (1, .pointer (some ⟨g, og, none⟩)), (2, .string ⟨ta.toArray⟩), (3, .int .i64 (xa : Int)), (4, .slice (some ⟨g, og, none⟩) n cq), (5, .pointer (some ⟨g, og + 1, none⟩)), (6, .string ⟨tb.toArray⟩), (7, .int .i64 (xb : Int)), (8, .slice (some ⟨g, og, none⟩) n cq), (9, .pointer (some ⟨g, og + 3, none⟩)), (10, .string ⟨tg.toArray⟩), (11, .agg (autV d0))] ∧ NewC q V w1.heap.size 12 26 (autV noA) w' ∧ Below w1.heap.size w1 w') (fun _ => undef) (by kernel_rfl) (by kernel_rfl) (by kernel_rfl) (by simp only [List.take_succ_cons, List.take_zero, putAll, Act.put, List.setIfInBounds_toArray, List.set_cons_zero, List.set_cons_succ]) ⟨Vals.none, NewC.none, HDZ.out⟩ ?_ ?_
  · simp only [List.take_succ_cons, List.take_zero, putAll, Nat.zero_add, Nat.reduceAdd, Act.put, List.setIfInBounds_toArray, List.set_cons_zero, List.set_cons_succ]
    refine FreeSteps.cons ?_ (FreeSteps.cons ?_ (FreeSteps.cons ?_ (FreeSteps.cons ?_ (FreeSteps.cons ?_ (FreeSteps.cons ?_ (FreeSteps.cons ?_ (FreeSteps.cons ?_ (FreeSteps.cons ?_ (FreeSteps.cons ?_ (FreeSteps.cons ?_ (FreeSteps.cons ?_ (FreeSteps.cons ?_ (FreeSteps.nil)))))))))))))
    all_goals (refine FreeStep.fresh rfl ?_; rintro q V wq hr hu ⟨hVs, h12, hb⟩ K hK)
    · exact op_move (.tmp 4) rfl _ rfl (hK _ _ ⟨hVs.set rfl, h12.ne (by decide) (Below.refl _ _), hb⟩)
    · exact op_indexAt 78 (.tmp 16) (.const (.int .i64 0)) rfl _ _ _ (hVs.get 0 (hr { on := 0, ground := .data } (by simp) rfl) rfl) rfl HI0.out (hK _ _ ⟨hVs.set rfl, h12.ne (by decide) (Below.refl _ _), hb⟩)
    · exact op_load_cell 9 (.tmp 17) rfl _ _ (hVs.get 1 (hr { on := 1, ground := .data } (by simp) rfl) rfl) (HC0.out wq hb) Tryd.isAgg9 (hK _ _ ⟨hVs.set rfl, h12.ne (by decide) (Below.refl _ _), hb⟩)
    · refine op_call Tryd.func39 rfl rfl rfl [.string ⟨ta.toArray⟩] ((congrArg (fun x => [x]) (hVs.get 2 (hr { on := 2, ground := .data } (by simp) rfl) rfl))) (HNA.out wq) ?_
      rintro e w' ⟨rfl, hb'⟩
      exact ⟨_, rfl, (hK _ _ ⟨hVs.set rfl, h12.ne (by decide) hb', hb.trans (hb'.mono hb.size)⟩)⟩
    · exact op_move (.tmp 4) rfl _ rfl (hK _ _ ⟨hVs.set rfl, h12.ne (by decide) (Below.refl _ _), hb⟩)
    · exact op_indexAt 78 (.tmp 20) (.const (.int .i64 1)) rfl _ _ _ (hVs.get 4 (hr { on := 4, ground := .data } (by simp) rfl) rfl) rfl HI1.out (hK _ _ ⟨hVs.set rfl, h12.ne (by decide) (Below.refl _ _), hb⟩)
    · exact op_load_cell 9 (.tmp 21) rfl _ _ (hVs.get 5 (hr { on := 5, ground := .data } (by simp) rfl) rfl) (HC1.out wq hb) Tryd.isAgg9 (hK _ _ ⟨hVs.set rfl, h12.ne (by decide) (Below.refl _ _), hb⟩)
    · refine op_call Tryd.func39 rfl rfl rfl [.string ⟨tb.toArray⟩] ((congrArg (fun x => [x]) (hVs.get 6 (hr { on := 6, ground := .data } (by simp) rfl) rfl))) (HNB.out wq) ?_
      rintro e w' ⟨rfl, hb'⟩
      exact ⟨_, rfl, (hK _ _ ⟨hVs.set rfl, h12.ne (by decide) hb', hb.trans (hb'.mono hb.size)⟩)⟩
    · exact op_move (.tmp 4) rfl _ rfl (hK _ _ ⟨hVs.set rfl, h12.ne (by decide) (Below.refl _ _), hb⟩)
    · exact op_indexAt 78 (.tmp 24) (.const (.int .i64 3)) rfl _ _ _ (hVs.get 8 (hr { on := 8, ground := .data } (by simp) rfl) rfl) rfl HI3.out (hK _ _ ⟨hVs.set rfl, h12.ne (by decide) (Below.refl _ _), hb⟩)
    · exact op_load_cell 9 (.tmp 25) rfl _ _ (hVs.get 9 (hr { on := 9, ground := .data } (by simp) rfl) rfl) (HC3.out wq hb) Tryd.isAgg9 (hK _ _ ⟨hVs.set rfl, h12.ne (by decide) (Below.refl _ _), hb⟩)
    · exact op_build 26 #[(0, .tmp 19), (1, .tmp 23), (3, .tmp 26)] rfl [(0, .int .i64 (xa : Int)), (1, .int .i64 (xb : Int)), (3, .string ⟨tg.toArray⟩)] (autV d0) (by
          have v3 := (hVs.get 3 (hr { on := 3, ground := .data } (by simp) rfl) rfl)
          have v7 := (hVs.get 7 (hr { on := 7, ground := .data } (by simp) rfl) rfl)
          have v10 := (hVs.get 10 (hr { on := 10, ground := .data } (by simp) rfl) rfl)
          rw [List.map_toArray]
          show [((0 : Nat), V 3), (1, V 7), (3, V 10)].toArray = _
          rw [v3, v7, v10]) HBD.out (hK _ _ ⟨hVs.set rfl, h12.ne (by decide) (Below.refl _ _), hb⟩)
    · exact op_alloc 26 rfl (autV noA) HAL.out (hK _ _ ⟨hVs.off rfl, .same hb.size, hb.alloc hb.size _⟩)
  rintro q V wq hall ⟨hVs, h12, hb⟩
  have v0 := hVs.get 0 (hall 0 (by decide)) rfl
  have v1 := hVs.get 1 (hall 1 (by decide)) rfl
  have v2 := hVs.get 2 (hall 2 (by decide)) rfl
  have v3 := hVs.get 3 (hall 3 (by decide)) rfl
  have v4 := hVs.get 4 (hall 4 (by decide)) rfl
  have v5 := hVs.get 5 (hall 5 (by decide)) rfl
  have v6 := hVs.get 6 (hall 6 (by decide)) rfl
  have v7 := hVs.get 7 (hall 7 (by decide)) rfl
  have v8 := hVs.get 8 (hall 8 (by decide)) rfl
  have v9 := hVs.get 9 (hall 9 (by decide)) rfl
  have v10 := hVs.get 10 (hall 10 (by decide)) rfl
  have v11 := hVs.get 11 (hall 11 (by decide)) rfl
  obtain ⟨g12, v12, hg12, hc12⟩ := h12 (hall 12 (by decide))
  simp only [List.take_succ_cons, List.take_zero, List.drop_succ_cons, List.drop_zero, putAll, Nat.zero_add, Nat.reduceAdd, v0, v1, v2, v3, v4, v5, v6, v7, v8, v9, v10, v11, v12, Act.put, List.setIfInBounds_toArray, List.set_cons_zero, List.set_cons_succ]
  clear hVs v0 v1 v2 v3 v4 v5 v6 v7 v8 v9 v10 v11 v12 hall
  have HG12 := Lib.hid hg12
  have HC12 := Lib.hid hc12
  have HB5 := Lib.hid hb
  have HNE := Lib.hid (show w.heap.size ≠ g12 from by have h1 := HXQ.out.lt; omega)
  clear HI0 HI1 HI3 HAL HBD HDZ hg12 hc12 hb HC0 HC1 HC3 HNA HNB
  refine wpList_store_cells rfl 26 (.tmp 6) (.tmp 27) rfl rfl g12 _ (autV d0) 26 rfl rfl HC12.out HSD.out HSZ.out (autV_all d0) ?_
  intro w5 hc hb
  have HV := Lib.hid hc.out
  have HX5 := Lib.hid ((HXQ.out.below HB5.out).but hb.out HNE.out)
  have HBW := Lib.hid (HBQ.out.trans ((But.toBelow HB5.out hb.out HG12.out HB5.out.size).mono HBQ.out.size))
  have HGL := Lib.hid (show g < w5.heap.size from Nat.lt_of_lt_of_le HGW.out (Nat.le_trans HB5.out.size hb.out.size))
  have HGN := Lib.hid (show g ≠ g12 from by have h1 := HGW.out; have h2 := HG12.out; omega)
  have HE3 := Lib.hid (show w5.cell? ⟨g, og + 2, none⟩ = some (.string ⟨tr.toArray⟩) from (World.cell?_of_block (w := wq) (a := ⟨g, og + 2, none⟩) (hb.out.block g (Nat.lt_of_lt_of_le HGW.out HB5.out.size) HGN.out)).trans (HC2.out wq HB5.out))
  have HWG := Lib.hid (show w.heap.size ≤ g12 from by have h1 := HXQ.out.lt; have h2 := HG12.out; omega)
  clear hc hb HC12 HB5 HXQ HBQ HC2 HG12
  obtain ⟨d, hd⟩ : ∃ d : AuthN, d = ⟨xa, xb, refP tr, tg⟩ := ⟨_, rfl⟩
  have HDE := Shut.mk hd
  have HOK := Lib.hid (show IdOk d.hash by rw [hd]; exact refP_ok tr)
  have HSE := Lib.hid (sizeAV HOK.out)
  have HSY := Lib.hid (show (autV noA).size = (autV d).size by rw [autV_size HOK.out]; rfl)
  rw [HDA.out, ← hd] at HRR
  have HDN := Shut.mk (show d.node = (xa : Int) by rw [hd])
  have HDQ := Shut.mk (show d.seq = (xb : Int) by rw [hd])
  have HDG := Shut.mk (show d.sig = tg by rw [hd])
  clear hd
  go_upto_region 5 with (fail)
  have HQ3 := Lib.hid (fun (w' : World) (b : Below w5.heap.size w5 w') => (b.cell (p := ⟨g, og + 2, none⟩) HGL.out).trans HE3.out)
  refine wp_region_class_tail (fun w' => Below w5.heap.size w5 w') 5 (by kernel_rfl) (by kernel_rfl) (Below.refl _ _).drew ?_
  simp only [List.take_succ_cons, List.take_zero, List.drop_succ_cons, List.drop_zero]
  repeat (first
    | (go_big_quiet_want; refine quiet_load_cell 9 _ rfl ⟨g, og + 2, none⟩ _ rfl HQ3.out Tryd.isAgg9 ?_; go_big_quiet_on; simp only [Act.put, List.setIfInBounds_toArray, List.set_cons_zero, List.set_cons_succ])
    | (go_big_quiet_want; refine quiet_indexAt 78 _ _ rfl _ _ _ rfl rfl HI2.out ?_; go_big_quiet_on; simp only [Act.put, List.setIfInBounds_toArray, List.set_cons_zero, List.set_cons_succ])
    | go_big_quiet_step ((intro hs'; rfl)))
  refine wpQuiet_nil ?_
  intro w6 hs6
  have hv6 := HV.out.below hs6
  have HX6 := Lib.hid (HX5.out.below hs6)
  have HB6 := Lib.hid (HBW.out.trans (hs6.mono HBW.out.size))
  clear hs6 HX5 HBW HI2 HQ3 HE3
  refine wpList_copy_text rfl (.tmp 29) (.tmp 32) 73 9 rfl 5 Tryd.underlying73 (by kernel_rfl) g12 2 32 32 tr rfl rfl (fun j hj => by
    rw [hv6.at, Array.getElem?_eq_getElem (by rw [autV_size HO0.out]; omega)]
    rfl) (fun j _ => hv6.frozen _) ?_
  have hl6 := Cells.lay (nums .u8 (byteNs (tr.take 32))) (autL d0) 2 w6 hv6
  rw [show layV (autL d0) 2 (nums .u8 (byteNs (tr.take 32))) = autL d by rw [HDD.out, HDE.out]; exact hash_lay _ _ _ _] at hl6
  have hbt := But.cells (nums .u8 (byteNs (tr.take 32))) 2 w6 (But.refl g12 w6)
  obtain ⟨w7, hw7⟩ : ∃ x, x = w6.setCells g12 2 (nums .u8 (byteNs (tr.take 32))) := ⟨_, rfl⟩
  rw [← hw7] at hl6 hbt ⊢
  have HV7 := Lib.hid (show Cells g12 26 (autV d) w7 from hl6)
  have HX7 := Lib.hid (HX6.out.but hbt HNE.out)
  have HB7 := Lib.hid (But.toBelow HB6.out hbt HWG.out HB6.out.size)
  clear hw7 hl6 hbt hv6 HX6 HB6 HV
  simp only [Act.put, List.setIfInBounds_toArray, List.set_cons_zero, List.set_cons_succ]
  have HTX := Lib.hid (fun w' => dev_authText16 d (by rw [HDN.out]; omega) (by rw [HDN.out]; omega) (by rw [HDQ.out]; omega) (by rw [HDQ.out]; omega) HOK.out (by rw [HDG.out]; exact Nat.le_trans HTG.out (by decide)) w')
  obtain ⟨T, hT⟩ : ∃ T, authB d = T := ⟨_, rfl⟩
  rw [hT] at HTX HRR
  clear hT
  go_wp2_with (refine wpList_load_cells rfl 26 _ rfl g12 (autV d) 26 _ rfl HV7.out Tryd.underlying26 rfl HSE.out ?_)
  refine (HTX.out w7).mono ?_
  rintro e w8 ⟨rfl, hb⟩
  have HV8 := Lib.hid (HV7.out.below hb)
  have HXQ := Lib.hid (HX7.out.below hb)
  have HBQ := Lib.hid (HB7.out.trans (hb.mono HB7.out.size))
  clear hb HV7 HX7 HB7 HTX
  obtain ⟨k0, -, -, k3⟩ := aut_cells HOK.out HV8.out
  rw [HDN.out] at k0
  rw [HDG.out] at k3
  obtain ⟨sl, hsl⟩ : ∃ x, tg.length = x := ⟨_, rfl⟩
  rw [hsl] at HRR
  have HSLB := Lib.hid (show sl ≤ 262144 by rw [← hsl]; exact HTG.out)
  have hslb := HSLB.out
  by_cases hts : T = s
  case neg =>
    have HR := Shut.mk (HRR.out.trans (if_neg (fun h => hts h.1)))
    have heq : (T == s) = false := by simp [hts]
    have hne : (T != s) = true := by simp [hts]
    clear hts HRR
    go_upto_region 7 with (fail)
    refine wp_region_lit ?_
    refine wpList_build_val rfl 26 #[] rfl [] _ (by simp) built_aut0 ?_
    simp only [Act.put, List.setIfInBounds_toArray, List.set_cons_zero, List.set_cons_succ]
    refine wpList_store_cells rfl 26 _ _ rfl rfl w.heap.size (autV noA) (autV noA) 26 rfl rfl HXQ.out HS.out rfl (autV_all noA) ?_
    intro wf hc hb
    have HXF := Lib.hid hc.out
    have HBF := Lib.hid (show Below w.heap.size w wf from But.toBelow HBQ.out hb.out (Nat.le_refl _) HBQ.out.size)
    clear hc hb HXQ HBQ
    go_wp2_with fail
    refine bodyPost_ret (results_cells_tmp rfl _ _ w.heap.size (autV noA) 26 _ _ rfl rfl HXF.out Tryd.underlying26 rfl HS.out) rfl ?_
    exact ⟨by rw [HR.out]; rfl, HBF.out⟩
  have heq : (T == s) = true := by simp [hts]
  have hne : (T != s) = false := by simp [hts]
  by_cases hxa : xa < 5
  case neg =>
    have HR := Shut.mk (HRR.out.trans (if_neg (fun h => hxa h.2.1)))
    have g5 : decide (5 ≤ (xa : Int)) = true := decide_eq_true (by omega)
    clear hts HRR
    go_upto_region 7 with (fail)
    refine wp_region_lit ?_
    refine wpList_build_val rfl 26 #[] rfl [] _ (by simp) built_aut0 ?_
    simp only [Act.put, List.setIfInBounds_toArray, List.set_cons_zero, List.set_cons_succ]
    refine wpList_store_cells rfl 26 _ _ rfl rfl w.heap.size (autV noA) (autV noA) 26 rfl rfl HXQ.out HS.out rfl (autV_all noA) ?_
    intro wf hc hb
    have HXF := Lib.hid hc.out
    have HBF := Lib.hid (show Below w.heap.size w wf from But.toBelow HBQ.out hb.out (Nat.le_refl _) HBQ.out.size)
    clear hc hb HXQ HBQ
    go_wp2_with fail
    refine bodyPost_ret (results_cells_tmp rfl _ _ w.heap.size (autV noA) 26 _ _ rfl rfl HXF.out Tryd.underlying26 rfl HS.out) rfl ?_
    exact ⟨by rw [HR.out]; rfl, HBF.out⟩
  have g5 : decide (5 ≤ (xa : Int)) = false := decide_eq_false (by omega)
  by_cases hsg : sl ≤ 1024
  case neg =>
    have HR := Shut.mk (HRR.out.trans (if_neg (fun h => hsg h.2.2)))
    have g6 : decide (1024 < (sl : Int)) = true := decide_eq_true (by omega)
    clear hts HRR
    go_upto_region 7 with (fail)
    refine wp_region_lit ?_
    refine wpList_build_val rfl 26 #[] rfl [] _ (by simp) built_aut0 ?_
    simp only [Act.put, List.setIfInBounds_toArray, List.set_cons_zero, List.set_cons_succ]
    refine wpList_store_cells rfl 26 _ _ rfl rfl w.heap.size (autV noA) (autV noA) 26 rfl rfl HXQ.out HS.out rfl (autV_all noA) ?_
    intro wf hc hb
    have HXF := Lib.hid hc.out
    have HBF := Lib.hid (show Below w.heap.size w wf from But.toBelow HBQ.out hb.out (Nat.le_refl _) HBQ.out.size)
    clear hc hb HXQ HBQ
    go_wp2_with fail
    refine bodyPost_ret (results_cells_tmp rfl _ _ w.heap.size (autV noA) 26 _ _ rfl rfl HXF.out Tryd.underlying26 rfl HS.out) rfl ?_
    exact ⟨by rw [HR.out]; rfl, HBF.out⟩
  have HR := Shut.mk (HRR.out.trans (if_pos ⟨hts, hxa, hsg⟩))
  have g6 : decide (1024 < (sl : Int)) = false := decide_eq_false (by omega)
  clear hts HRR hxa hsg
  go_upto_region 8 with (fail)
  refine wp_region_lit ?_
  refine wpList_load_cells rfl 26 _ rfl g12 (autV d) 26 _ rfl HV8.out Tryd.underlying26 rfl HSE.out ?_
  simp only [Act.put, List.setIfInBounds_toArray, List.set_cons_zero, List.set_cons_succ]
  refine wpList_store_cells rfl 26 _ _ rfl rfl w.heap.size (autV noA) (autV d) 26 rfl rfl HXQ.out HSE.out HSY.out (autV_all d) ?_
  intro wf hc hb
  have HXF := Lib.hid hc.out
  have HBF := Lib.hid (show Below w.heap.size w wf from But.toBelow HBQ.out hb.out (Nat.le_refl _) HBQ.out.size)
  clear hc hb HXQ HBQ
  go_wp2_with fail
  refine bodyPost_ret (results_cells_tmp rfl _ _ w.heap.size (autV d) 26 _ _ rfl rfl HXF.out Tryd.underlying26 rfl HSE.out) rfl ?_
  exact ⟨by rw [HR.out]; rfl, HBF.out⟩
end Go.Proofs.YtpfhlhcnmeodbaaDoor
namespace Go.Proofs.YtpfhlhcnmeodbaaDoor
open Go.RowKit Go.BigFrame
set_option maxHeartbeats 4000000 in
set_option maxRecDepth 100000 in
theorem ref_word (n i : Int) (h : List Nat) (hn : n ≤ 9223372036854775807) (hi : i ≤ 9223372036854775807) (hh : IdOk h) (w : World) :
    Calls Tryd.prog 18 #[.int .i64 n, .int .i64 i, .agg (nums .u8 h).toArray] w fun r w' => r = .returned (.string ⟨(wordB n i h).toArray⟩) ∧ Below w.heap.size w w' := by
  have hx1 : Cells w.heap.size 24 (nums .u8 h).toArray (w.alloc (.cells (nums .u8 h).toArray 24)) := heap_alloc_new w _
  have HX1 := Lib.hid hx1
  have HB := Lib.hid (show Below w.heap.size w (w.alloc (.cells (nums .u8 h).toArray 24)) from (Below.refl _ _).alloc (Nat.le_refl _) _)
  have HH := Lib.hid hh
  have HLEN := Lib.hid (wordB_len hn hi hh)
  have HN := Lib.hid (fun w' => ref_num16 n w' hn)
  have HI := Lib.hid (fun w' => ref_num16 i w' hi)
  clear hx1 hh
  go_enter Tryd.func18, Tryd.ntmps18
  go_upto_region 1 with (fail)
  obtain ⟨w1, hw1⟩ : ∃ x, x = w.alloc (.cells (nums .u8 h).toArray 24) := ⟨_, rfl⟩
  rw [← hw1] at HX1 HB ⊢
  clear hw1
  have HC3 := Lib.hid (fun (w' : World) (q : Below w1.heap.size w1 w') => conv_mid (P := Tryd.prog) (src := 73) (dst := 9) (c := 32) Tryd.underlying73 Tryd.underlying5 Tryd.underlying9 HH.out.1.symm HH.out.2 (rangeAt_belowI (cells_range HX1.out) q HX1.out.lt))
  refine wp_region_class_tail (fun w' => Below w1.heap.size w1 w') 6 (by kernel_rfl) (by kernel_rfl) (Below.refl _ _).drew ?_
  simp only [List.take_succ_cons, List.take_zero, List.drop_succ_cons, List.drop_zero]
  repeat (first
    | (go_big_quiet_want; refine quiet_conv 73 9 _ rfl (.slice (some ⟨w.heap.size, 0, none⟩) 32 32) _ rfl HC3.out ?_; go_big_quiet_on; simp only [Act.put, List.setIfInBounds_toArray, List.set_cons_zero, List.set_cons_succ])
    | go_big_quiet_step ((intro hs'; first
        | (go_at_call_of 44 (Value.int .i64 n); exact (HN.out _).mono fun e w' h => ⟨h.1, hs'.trans (h.2.mono hs'.size)⟩)
        | (go_at_call_of 44 (Value.int .i64 i); exact (HI.out _).mono fun e w' h => ⟨h.1, hs'.trans (h.2.mono hs'.size)⟩)
        | rfl)))
  refine wpQuiet_nil ?_
  intro w2 hs2
  have HB2 := Lib.hid (HB.out.trans (hs2.mono HB.out.size))
  clear hs2 HX1 HB HC3 HN HI
  go_wp2_with fail
  refine (rlistref_any (some ⟨w2.heap.size, 0, none⟩) 4 [[119, 111, 114, 100], numB n.toNat, numB i.toNat, txt h] _ (at_four9 w2 _ _ _ _) (by simp) (by have := HLEN.out; rw [wordB] at this; omega)).mono ?_
  rintro e w3 ⟨rfl, hb⟩
  have HB3 := Lib.hid (HB2.out.trans (((Below.refl _ w2).alloc (Nat.le_refl _) _).trans (hb.mono (by simp)) |>.mono HB2.out.size))
  clear hb HB2
  go_wp2_with fail
  go_ret
  exact ⟨rfl, HB3.out⟩
end Go.Proofs.YtpfhlhcnmeodbaaDoor
namespace Go.Proofs.YtpfhlhcnmeodbaaDoor
open Go.RowKit Go.BigFrame
set_option maxHeartbeats 4000000 in
set_option maxRecDepth 100000 in
theorem ref_walk16 (p : List Nat) (i : Int) (ao : Option Addr) (L : List EntN) (c : Nat) (w : World) (hp : IdOk p) (h0 : -9223372036854775808 ≤ i) (hi : i + L.length ≤ 9223372036854775807) (hL : ∀ x ∈ L, x.Len ∧ x.seq < 9223372036854775808) (hn : L.length ≤ 1000000) (hat : EntsAt ao L w) :
    Calls Tryd.prog 11 #[.agg (nums .u8 p).toArray, .int .i64 i, .slice ao L.length c] w fun r w' => RowI w.heap.size (leadN p i L) r w' ∧ Below w.heap.size w w' := by
  have HX1 := Lib.hid (show Cells w.heap.size 24 (nums .u8 p).toArray (w.alloc (.cells (nums .u8 p).toArray 24)) from heap_alloc_new w _)
  have HB := Lib.hid (show Below w.heap.size w (w.alloc (.cells (nums .u8 p).toArray 24)) from (Below.refl _ _).alloc (Nat.le_refl _) _)
  have HP := Lib.hid hat
  have HLL := Lib.hid hL
  have HPK := Lib.hid hp
  obtain ⟨n, hnn⟩ : ∃ n, L.length = n := ⟨_, rfl⟩
  have HN := Shut.mk hnn
  rw [hnn] at hn hi ⊢
  have HZE := Lib.hid (show (Tryd.prog.info? 35).bind (·.zero) = some (.agg (entL noE).toArray) by kernel_rfl)
  clear hat hL hnn hp
  go_enter Tryd.func11, Tryd.ntmps11
  go_wp2_with fail
  obtain ⟨w1, hw1⟩ : ∃ x, x = w.alloc (.cells (nums .u8 p).toArray 24) := ⟨_, rfl⟩
  rw [← hw1] at HX1 HB ⊢
  have HS1 := Lib.hid (show w1.heap.size = w.heap.size + 1 by rw [hw1, World.size_alloc])
  clear hw1
  go_loopw [7, 12] (fun v j wr => ∃ k : Nat, k ≤ n ∧ j = .int .i64 k ∧ OwnI (w.heap.size + 1) 24 v (leadN p i (L.take k)) wr ∧ Cells w.heap.size 24 (nums .u8 (endN p i (L.take k))).toArray wr ∧ Below w.heap.size w wr ∧ w1.heap.size ≤ wr.heap.size) (fun _ j _ => n - (intOf j).toNat)
  case atStart => exact ⟨0, Nat.zero_le _, rfl, OwnI.nil _ _ _, HX1.out, HB.out, Nat.le_refl _⟩
  case round =>
    obtain ⟨k, hk, rfl, ho, hc, hb, hsz⟩ := hrel
    have HO := Lib.hid ho
    have HC := Lib.hid hc
    have HBW := Lib.hid hb
    have HSZ := Lib.hid hsz
    have HPW := Lib.hid (HP.out.below hb)
    clear hb ho hc hsz
    by_cases hkn : k < n
    · obtain ⟨y, hy⟩ : ∃ y, L[k]? = some y := ⟨_, List.getElem?_eq_getElem (by rw [HN.out]; exact hkn)⟩
      have htk : L.take (k + 1) = L.take k ++ [y] := by
        have h1 : L[k]'(by rw [HN.out]; exact hkn) = y := by
          rw [List.getElem?_eq_getElem (by rw [HN.out]; exact hkn)] at hy
          exact Option.some.inj hy
        rw [List.take_succ_eq_append_getElem (by rw [HN.out]; exact hkn), h1]
      have hlk : (L.take k).length = k := by rw [List.length_take, HN.out]; omega
      have HTE := Shut.mk (show endN p i (L.take (k + 1)) = linkN (endN p i (L.take k)) (i + k) y by rw [htk, endN_snoc, hlk])
      have HTL := Shut.mk (show leadN p i (L.take (k + 1)) = leadN p i (L.take k) ++ [linkN (endN p i (L.take k)) (i + k) y] by rw [htk, leadN_snoc, hlk])
      have HY := Lib.hid (HLL.out y (List.mem_of_getElem? hy))
      obtain ⟨b, ob, rfl, hbl, hr⟩ := HPW.out.getM hy
      have HR := Lib.hid hr
      have HSL := Lib.hid (sizeEL HY.out.1.ok)
      have HSV := Lib.hid (sizeEV HY.out.1.ok)
      have HEK := Lib.hid (endN_ok HPK.out (L.take k) i)
      have HML := Lib.hid (show (leadN p i (L.take k)).length = k by rw [leadN_len, hlk])
      obtain ⟨M, hM⟩ : ∃ M, leadN p i (L.take k) = M := ⟨_, rfl⟩
      obtain ⟨E, hE⟩ : ∃ E, endN p i (L.take k) = E := ⟨_, rfl⟩
      rw [hM] at HO HTL HML
      rw [hE] at HC HTE HTL HEK
      clear hy hbl hr hM hE htk hlk
      have HSE := Lib.hid (show (Tryd.prog.info? 24).map (·.size) = some E.length by rw [HEK.out.1]; exact Tryd.sizeI)
      obtain ⟨U, hU⟩ : ∃ U, linkN E (i + k) y = U := ⟨_, rfl⟩
      have HUK := Lib.hid (show IdOk U by rw [← hU]; exact linkN_ok _ _ _)
      have HSU := Lib.hid (show (Tryd.prog.info? 24).map (·.size) = some U.length by rw [HUK.out.1]; exact Tryd.sizeI)
      have HLK := Lib.hid (fun w' => ref_link E (i + k) y HEK.out (by omega) HY.out.1 HY.out.2 w')
      rw [hU] at HTE HTL HLK
      clear hU
      go_wp2_with (first
        | (refine wpList_load_mid rfl 35 _ rfl b (ob + k * 73) rfl _ _ HR.out Tryd.underlying35 rfl HSL.out ?_)
        | (refine wpList_alloc_of rfl 35 rfl (entL noE) HZE.out ?_)
        | (refine wpList_store_cells rfl 35 _ _ rfl rfl wr.heap.size (entV noE) (entV y) 35 rfl rfl (heap_alloc_new wr _) HSV.out (by rw [entV_size HY.out.1.ok]; rfl) (entV_all y) ?_))
      intro w4 hc hb
      have hb4 : Below wr.heap.size wr w4 := But.toBelow ((Below.refl _ wr).alloc (Nat.le_refl _) _) hb.out (Nat.le_refl _) (by rw [World.size_alloc]; exact Nat.le_succ _)
      have HC4 := Lib.hid hc.out
      have HB4 := Lib.hid (HBW.out.trans (hb4.mono HBW.out.size))
      have HO4 := Lib.hid (HO.out.below hb4)
      have HP4 := Lib.hid (HC.out.below hb4)
      have HZ4 := Lib.hid (Nat.le_trans HSZ.out hb4.size)
      obtain ⟨g5, hg5⟩ : ∃ g, wr.heap.size = g := ⟨_, rfl⟩
      rw [hg5] at HC4 ⊢
      clear hc hb hb4 hg5 HO HR HSL HC
      go_wp2_with (first
        | (refine wpList_load_nums rfl 24 _ rfl w.heap.size .u8 E 24 _ rfl HP4.out Tryd.underlying24 rfl HSE.out ?_)
        | (refine wpList_load_cells rfl 35 _ rfl g5 (entV y) 35 _ rfl HC4.out Tryd.underlying35 rfl HSV.out ?_))
      refine (HLK.out w4).mono ?_
      rintro r w5 ⟨rfl, hb⟩
      have HB5 := Lib.hid (HB4.out.trans (hb.mono HB4.out.size))
      have HO5 := Lib.hid (HO4.out.below hb)
      have HP5 := Lib.hid (HP4.out.below hb)
      have HZ5 := Lib.hid (Nat.le_trans HZ4.out hb.size)
      clear hb HB4 HO4 HP4 HZ4 HC4
      go_wp2_with (first
        | (refine wpList_store_nums rfl 24 _ _ rfl rfl w.heap.size .u8 E U 24 rfl rfl HP5.out HSU.out (by rw [HEK.out.1, HUK.out.1]) ?_))
      intro w6 hc6 hb6
      have HP6 := Lib.hid hc6.out
      have HB6 := Lib.hid (show Below w.heap.size w w6 from But.toBelow HB5.out hb6.out (Nat.le_refl _) HB5.out.size)
      have HO6 := Lib.hid (HO5.out.but hb6.out (fun g hg => by have := (World.ownsRow.lt HO5.out g hg).1; omega))
      have HZ6 := Lib.hid (Nat.le_trans HZ5.out hb6.out.size)
      clear hc6 hb6 HP5 HB5 HO5 HZ5
      go_wp2_with (first
        | (refine wpList_load_nums rfl 24 _ rfl w.heap.size .u8 U 24 _ rfl HP6.out Tryd.underlying24 rfl HSU.out ?_)
        | (refine wpList_build_id rfl 29 24 _ rfl U rfl HUK.out.1 Tryd.underlying29 Tryd.infoI32 ?_))
      intro w7 hk7 hb7
      have HP7 := Lib.hid (Cells.below HP6.out hb7.out)
      have HB7 := Lib.hid (HB6.out.trans (hb7.out.mono HB6.out.size))
      have HO7 := Lib.hid (HO6.out.below hb7.out)
      have HZ7 := Lib.hid (Nat.le_trans HZ6.out hb7.out.size)
      have HK7 := Lib.hid hk7.out
      obtain ⟨g7, hg7⟩ : ∃ g, w6.heap.size = g := ⟨_, rfl⟩
      rw [hg7] at HK7 ⊢
      clear hk7 hb7 hg7 HP6 HB6 HO6 HZ6
      have HL63 := Lib.hid (show M.length + [U].length ≤ 4398046511104 by have := HML.out; simp only [List.length_cons, List.length_nil]; omega)
      have HWS := Lib.hid (show w.heap.size + 1 ≤ w7.heap.size by have := HZ7.out; have := HS1.out; omega)
      go_wp2_with (refine wpList_append_ids rfl _ _ 29 24 rfl (w.heap.size + 1) (.agg (nums .u8 (List.replicate 32 0)).toArray) rfl Tryd.underlying29 Tryd.infoI32 _ M [U] (Ids.one HUK.out.1 HUK.out.2) ⟨g7, 0, none⟩ 1 1 rfl rfl HO7.out rfl (news_id HK7.out) HL63.out HWS.out ?_)
      intro v8 w8 ho hb
      have HO8 := Lib.hid ho.out
      have HP8 := Lib.hid (show Cells w.heap.size 24 (nums .u8 U).toArray w8 from (hb.out.block w.heap.size (Nat.lt_succ_self _)).trans HP7.out)
      have HB8 := Lib.hid (HB7.out.trans (hb.out.mono (Nat.le_succ _)))
      have HZ8 := Lib.hid (Nat.le_trans HZ7.out hb.out.size)
      clear ho hb HO7 HP7 HB7 HZ7 HK7 HWS
      go_wp2_with fail
      exact ⟨⟨k + 1, by omega, by go_num, by rw [HTL.out]; exact HO8.out, by rw [HTE.out]; exact HP8.out, HB8.out, HZ8.out⟩, by simp [intOf]; omega⟩
    · obtain rfl : k = n := by omega
      have hM : L.take k = L := List.take_of_length_le (by rw [HN.out]; exact Nat.le_refl _)
      rw [hM] at HO
      go_wp2_with fail
      go_ret
      exact ⟨⟨_, rfl, HO.out.mono (Nat.le_succ _)⟩, HBW.out⟩
end Go.Proofs.YtpfhlhcnmeodbaaDoor
namespace Go.Proofs.YtpfhlhcnmeodbaaDoor
open Go.RowKit Go.BigFrame
theorem ref_num15 (s : List UInt8) (w : World) (hs : s.length ≤ 9223372036854775000) :
    Calls Tryd.prog 41 #[.string ⟨s.toArray⟩] w fun e w' => e = .returned (.int .i64 (numI s)) ∧ Below w.heap.size w w' := by
  have hc := rtn_any s w hs
  have HA := Shut.mk (show numI s = match (match takeNum s with | some (n, []) => some n | _ => none) with | some n => (n : Int) | none => -1 from rfl)
  cases ht : takeNum s with
  | none =>
    rw [ht] at hc HA
    simp only [Option.getD_none, Option.isSome_none] at hc
    have HC := Lib.hid hc
    clear hc ht hs
    go_enter Tryd.func41, Tryd.ntmps41
    go_wp2_with fail
    refine HC.out.mono ?_
    rintro e w1 ⟨rfl, hb⟩
    have HB := Lib.hid hb
    clear hb
    go_wp2_with fail
    go_ret
    exact ⟨by rw [HA.out]; rfl, HB.out⟩
  | some p =>
    obtain ⟨n, r⟩ := p
    rw [ht] at hc HA
    simp only [Option.getD_some, Option.isSome_some] at hc
    have HC := Lib.hid hc
    clear hc ht hs
    cases r with
    | nil =>
      go_enter Tryd.func41, Tryd.ntmps41
      go_wp2_with fail
      refine HC.out.mono ?_
      rintro e w1 ⟨rfl, hb⟩
      have HB := Lib.hid hb
      clear hb
      go_wp2_with fail
      go_ret
      exact ⟨by rw [HA.out]; rfl, HB.out⟩
    | cons c r =>
      have hne : ((c :: r) == []) = false := rfl
      obtain ⟨q, hq⟩ : ∃ q, c :: r = q := ⟨_, rfl⟩
      rw [hq] at HC hne
      clear hq
      go_enter Tryd.func41, Tryd.ntmps41
      go_wp2_with fail
      refine HC.out.mono ?_
      rintro e w1 ⟨rfl, hb⟩
      have HB := Lib.hid hb
      clear hb
      go_wp2_with fail
      go_ret
      exact ⟨by rw [HA.out]; rfl, HB.out⟩
end Go.Proofs.YtpfhlhcnmeodbaaDoor
namespace Go.Proofs.YtpfhlhcnmeodbaaDoor
open Go.RowKit Go.BigFrame
def RdA (o : Option AuthN) : Value := .tuple #[.agg (autV (o.getD noA)), .bool o.isSome]
theorem noA_ok : IdOk noA.hash := zeroI_ok
theorem alloc_aut (w : World) : (Instr.alloc 26 true (.tuple #[])).run Tryd.prog w = .ok (.pointer (some ⟨w.heap.size, 0, none⟩)) (w.alloc (.cells (autV noA) 26)) := by kernel_rfl
theorem idP_ok16 {s : List UInt8} (hs : s.length = 32) {k : Nat} (hk : k ≤ 32) : IdOk (idP s k) := ⟨idP_len hs hk, fun x hx => by
  rcases List.mem_append.1 hx with hx | hx
  · exact byteNs_lt _ x (List.mem_of_mem_take hx)
  · rw [(List.mem_replicate.1 hx).2]; decide⟩
theorem readA_parts {s : List UInt8} {l : List (List UInt8)} (h : splitB s = some l) (hl : l.length ≠ 4) : readA s = none := by
  rw [readA, h]
  match l, hl with
  | [], _ => rfl
  | [_], _ => rfl
  | [_, _], _ => rfl
  | [_, _, _], _ => rfl
  | [_, _, _, _], h => exact absurd rfl h
  | _ :: _ :: _ :: _ :: _ :: _, _ => rfl
set_option maxHeartbeats 8000000 in
set_option maxRecDepth 100000 in
theorem ref_readAuth (s : List UInt8) (w : World) (hm : s.length ≤ 140737488351232) :
    Calls Tryd.prog 15 #[.string ⟨s.toArray⟩] w fun e w' => e = .returned (RdA (readA s)) ∧ Below w.heap.size w w' := by
  have HS := Lib.hid (sizeAV noA_ok)
  have HM := Lib.hid hm
  clear hm
  go_enter Tryd.func15, Tryd.ntmps15
  go_upto_region 1 with (fail)
  have hx : Cells w.heap.size 26 (autV noA) (w.alloc (.cells (autV noA) 26)) := heap_alloc_new w _
  have hb : Below w.heap.size w (w.alloc (.cells (autV noA) 26)) := (Below.refl _ _).alloc (Nat.le_refl _) _
  change Code.wp _ _ _ _ (w.alloc (.cells (autV noA) 26))
  obtain ⟨w1, hw1⟩ : ∃ x, x = w.alloc (.cells (autV noA) 26) := ⟨_, rfl⟩
  rw [← hw1] at hx hb ⊢
  have HX := Lib.hid hx
  have HB := Lib.hid hb
  clear hw1 hx hb
  go_wp2_with fail
  obtain ⟨q, hq⟩ : ∃ q, splitB s = q := ⟨_, rfl⟩
  have HL := Shut.mk hq
  have hcc := rsplit_any s w1 (by have := HM.out; omega)
  rw [hq] at hcc
  clear hq
  refine hcc.mono ?_
  rintro e w2 ⟨⟨v, rfl, ho⟩, hb⟩
  obtain ⟨ao, cq, rfl⟩ := ho.form
  have HX2 := Lib.hid (HX.out.below hb)
  have HB2 := Lib.hid (HB.out.trans (hb.mono HB.out.size))
  have HSA := Lib.hid (strsAt_own ho)
  clear hcc ho hb HX HB
  cases q with
  | none =>
    simp only [Option.getD_none, List.length_nil, Option.isSome_none]
    have HR := Shut.mk (show readA s = none by rw [readA, HL.out])
    clear HSA
    go_wp2_with (first | (refine wpList_build_val rfl 26 #[] rfl [] _ rfl built_aut0 ?_) | (refine wpList_store_cells rfl 26 _ _ rfl rfl w.heap.size (autV noA) (autV noA) 26 rfl rfl HX2.out HS.out rfl (autV_all noA) ?_))
    intro w9 hc hb
    have HX9 := Lib.hid hc.out
    have HB9 := Lib.hid (show Below w.heap.size w w9 from But.toBelow HB2.out hb.out (Nat.le_refl _) HB2.out.size)
    clear hc hb HX2 HB2
    go_wp2_with fail
    refine bodyPost_ret (results_cells_tmp rfl _ _ w.heap.size (autV noA) 26 _ _ rfl rfl HX9.out Tryd.underlying26 rfl HS.out) rfl ?_
    exact ⟨by rw [HR.out]; rfl, HB9.out⟩
  | some l =>
    simp only [Option.getD_some, Option.isSome_some] at HSA ⊢
    have HLR := Lib.hid (split_parts HL.out)
    obtain ⟨n, hn⟩ : ∃ n, l.length = n := ⟨_, rfl⟩
    rw [hn]
    by_cases h4 : n = 4
    · subst h4
      obtain ⟨t0, t1, t2, t3, rfl⟩ : ∃ a b c d, l = [a, b, c, d] := by
        match l, hn with
        | [], h => simp only [List.length_nil] at h; omega
        | [_], h => simp only [List.length_cons, List.length_nil] at h; omega
        | [_, _], h => simp only [List.length_cons, List.length_nil] at h; omega
        | [_, _, _], h => simp only [List.length_cons, List.length_nil] at h; omega
        | [a, b, c, d], _ => exact ⟨a, b, c, d, rfl⟩
        | _ :: _ :: _ :: _ :: _ :: _, h => simp only [List.length_cons] at h; omega
      obtain ⟨g, og, rfl, hg, hcell⟩ := strsG16 HSA.out (by simp)
      have HRA := Shut.mk (show readA s = if t2.length = 32 ∧ t3.length ≤ 1024 ∧ 0 ≤ numI t0 ∧ numI t0 ≤ 4 ∧ 0 ≤ numI t1 then some ⟨numI t0, numI t1, byteNs t2, t3⟩ else none by rw [readA, HL.out])
      have k0 := hcell 0 (by simp)
      have k1 := hcell 1 (by simp)
      have cs2 := hcell 2 (by simp)
      have cs3 := hcell 3 (by simp)
      simp only [List.getElem_cons_succ, List.getElem_cons_zero, Nat.add_zero] at k0 k1 cs2 cs3
      have HG := Lib.hid hg
      have HC0 := Lib.hid (fun (w' : World) (q : Below w2.heap.size w2 w') => (q.cell (p := ⟨g, og + 0, none⟩) hg).trans k0)
      have HC1 := Lib.hid (fun (w' : World) (q : Below w2.heap.size w2 w') => (q.cell (p := ⟨g, og + 1, none⟩) hg).trans k1)
      have HC2 := Lib.hid (fun (w' : World) (q : Below w2.heap.size w2 w') => (q.cell (p := ⟨g, og + 2, none⟩) hg).trans cs2)
      have HC3 := Lib.hid (fun (w' : World) (q : Below w2.heap.size w2 w') => (q.cell (p := ⟨g, og + 3, none⟩) hg).trans cs3)
      have HL0 := Lib.hid (HLR.out t0 (by simp))
      have HL1 := Lib.hid (HLR.out t1 (by simp))
      clear hcell HSA hn HLR HL k0 k1 hg
      obtain ⟨r2, hr2⟩ : ∃ r, t2.length = r := ⟨_, rfl⟩
      obtain ⟨r3, hr3⟩ : ∃ r, t3.length = r := ⟨_, rfl⟩
      have HR2 := Shut.mk hr2
      have HR3 := Shut.mk hr3
      rw [hr2, hr3] at HRA
      by_cases h32 : r2 = 32
      · by_cases h1024 : 1024 < r3
        · have g2 : ((r2 : Int) == 32) = true := by simp [h32]
          have g3 : (1024 : Int) < (r3 : Int) := by omega
          have HR := Shut.mk (show readA s = none by rw [HRA.out, if_neg (by omega)])
          go_wp2_with (first | (refine wpList_build_val rfl 26 #[] rfl [] _ rfl built_aut0 ?_) | (refine wpList_store_cells rfl 26 _ _ rfl rfl w.heap.size (autV noA) (autV noA) 26 rfl rfl HX2.out HS.out rfl (autV_all noA) ?_))
          intro w9 hc hb
          have HX9 := Lib.hid hc.out
          have HB9 := Lib.hid (show Below w.heap.size w w9 from But.toBelow HB2.out hb.out (Nat.le_refl _) HB2.out.size)
          clear hc hb HX2 HB2
          go_wp2_with fail
          refine bodyPost_ret (results_cells_tmp rfl _ _ w.heap.size (autV noA) 26 _ _ rfl rfl HX9.out Tryd.underlying26 rfl HS.out) rfl ?_
          exact ⟨by rw [HR.out]; rfl, HB9.out⟩
        · have g2 : ((r2 : Int) == 32) = true := by simp [h32]
          have g3 : ¬ (1024 : Int) < (r3 : Int) := by omega
          have HLE := Lib.hid (show r3 ≤ 1024 by omega)
          have HL2 := Lib.hid (show t2.length = 32 by rw [hr2, h32])
          obtain ⟨kn, hkn⟩ : ∃ k, numI t0 = k := ⟨_, rfl⟩
          obtain ⟨ks, hks⟩ : ∃ k, numI t1 = k := ⟨_, rfl⟩
          have HRB := Shut.mk (show readA s = if 0 ≤ kn ∧ kn ≤ 4 ∧ 0 ≤ ks then some ⟨kn, ks, byteNs t2, t3⟩ else none by
            rw [HRA.out, hkn, hks]
            by_cases hh : 0 ≤ kn ∧ kn ≤ 4 ∧ 0 ≤ ks
            · rw [if_pos hh, if_pos ⟨h32, HLE.out, hh⟩]
            · rw [if_neg hh, if_neg (fun e => hh e.2.2)])
          have HN0 := Lib.hid (fun w' => ref_num15 t0 w' (by have := HL0.out; omega))
          have HN1 := Lib.hid (fun w' => ref_num15 t1 w' (by have := HL1.out; omega))
          rw [hkn] at HN0
          rw [hks] at HN1
          go_upto_region 4 with (fail)
          clear g2 g3 HRA cs2 cs3 hr2 hr3 hkn hks
          refine wp_region_free 13 (fun q V w' => Vals q V [(0, .slice (some ⟨g, og, none⟩) 4 cq), (1, .pointer (some ⟨g, og + 0, none⟩)), (2, .string ⟨t0.toArray⟩), (3, .int .i64 kn), (4, .slice (some ⟨g, og, none⟩) 4 cq), (5, .pointer (some ⟨g, og + 1, none⟩)), (6, .string ⟨t1.toArray⟩), (7, .int .i64 ks), (8, .slice (some ⟨g, og, none⟩) 4 cq), (9, .pointer (some ⟨g, og + 3, none⟩)), (10, .string ⟨t3.toArray⟩), (11, .agg (autV ⟨kn, ks, zeroI, t3⟩))] ∧ NewC q V w2.heap.size 12 26 (autV noA) w' ∧ Below w2.heap.size w2 w') (fun _ => undef) (by kernel_rfl) (by kernel_rfl) (by kernel_rfl) (by simp only [List.take_succ_cons, List.take_zero, putAll, Act.put, List.setIfInBounds_toArray, List.set_cons_zero, List.set_cons_succ]) ⟨Vals.none, NewC.none, (Below.refl _ _).drew⟩ ?_ ?_
          · simp only [List.take_succ_cons, List.take_zero, putAll, Nat.zero_add, Nat.reduceAdd, Act.put, List.setIfInBounds_toArray, List.set_cons_zero, List.set_cons_succ]
            refine FreeSteps.cons ?_ (FreeSteps.cons ?_ (FreeSteps.cons ?_ (FreeSteps.cons ?_ (FreeSteps.cons ?_ (FreeSteps.cons ?_ (FreeSteps.cons ?_ (FreeSteps.cons ?_ (FreeSteps.cons ?_ (FreeSteps.cons ?_ (FreeSteps.cons ?_ (FreeSteps.cons ?_ (FreeSteps.cons ?_ (FreeSteps.nil)))))))))))))
            all_goals (refine FreeStep.fresh rfl ?_; rintro q V wq hr hu ⟨hVs, hN, hb⟩ K hK)
            · exact op_move (.tmp 4) rfl _ rfl (hK _ _ ⟨hVs.set rfl, hN.ne (by decide) (Below.refl _ _), hb⟩)
            · exact op_indexAt 78 (.tmp 35) (.const (.int .i64 0)) rfl _ _ _ (hVs.get 0 (hr { on := 0, ground := .data } (by simp) rfl) rfl) rfl (index_str16 g og 4 cq 0 (by decide)) (hK _ _ ⟨hVs.set rfl, hN.ne (by decide) (Below.refl _ _), hb⟩)
            · exact op_load_cell 9 (.tmp 36) rfl _ _ (hVs.get 1 (hr { on := 1, ground := .data } (by simp) rfl) rfl) (HC0.out wq hb) Tryd.isAgg9 (hK _ _ ⟨hVs.set rfl, hN.ne (by decide) (Below.refl _ _), hb⟩)
            · refine op_call Tryd.func41 rfl rfl rfl [.string ⟨t0.toArray⟩] ((congrArg (fun x => [x]) (hVs.get 2 (hr { on := 2, ground := .data } (by simp) rfl) rfl))) (HN0.out wq) ?_
              rintro e w' ⟨rfl, hb'⟩
              exact ⟨_, rfl, (hK _ _ ⟨hVs.set rfl, hN.ne (by decide) hb', hb.trans (hb'.mono hb.size)⟩)⟩
            · exact op_move (.tmp 4) rfl _ rfl (hK _ _ ⟨hVs.set rfl, hN.ne (by decide) (Below.refl _ _), hb⟩)
            · exact op_indexAt 78 (.tmp 39) (.const (.int .i64 1)) rfl _ _ _ (hVs.get 4 (hr { on := 4, ground := .data } (by simp) rfl) rfl) rfl (index_str16 g og 4 cq 1 (by decide)) (hK _ _ ⟨hVs.set rfl, hN.ne (by decide) (Below.refl _ _), hb⟩)
            · exact op_load_cell 9 (.tmp 40) rfl _ _ (hVs.get 5 (hr { on := 5, ground := .data } (by simp) rfl) rfl) (HC1.out wq hb) Tryd.isAgg9 (hK _ _ ⟨hVs.set rfl, hN.ne (by decide) (Below.refl _ _), hb⟩)
            · refine op_call Tryd.func41 rfl rfl rfl [.string ⟨t1.toArray⟩] ((congrArg (fun x => [x]) (hVs.get 6 (hr { on := 6, ground := .data } (by simp) rfl) rfl))) (HN1.out wq) ?_
              rintro e w' ⟨rfl, hb'⟩
              exact ⟨_, rfl, (hK _ _ ⟨hVs.set rfl, hN.ne (by decide) hb', hb.trans (hb'.mono hb.size)⟩)⟩
            · exact op_move (.tmp 4) rfl _ rfl (hK _ _ ⟨hVs.set rfl, hN.ne (by decide) (Below.refl _ _), hb⟩)
            · exact op_indexAt 78 (.tmp 43) (.const (.int .i64 3)) rfl _ _ _ (hVs.get 8 (hr { on := 8, ground := .data } (by simp) rfl) rfl) rfl (index_str16 g og 4 cq 3 (by decide)) (hK _ _ ⟨hVs.set rfl, hN.ne (by decide) (Below.refl _ _), hb⟩)
            · exact op_load_cell 9 (.tmp 44) rfl _ _ (hVs.get 9 (hr { on := 9, ground := .data } (by simp) rfl) rfl) (HC3.out wq hb) Tryd.isAgg9 (hK _ _ ⟨hVs.set rfl, hN.ne (by decide) (Below.refl _ _), hb⟩)
            · exact op_build_val 26 #[(0, .tmp 38), (1, .tmp 42), (3, .tmp 45)] rfl [(0, .int .i64 kn), (1, .int .i64 ks), (3, .string ⟨t3.toArray⟩)] _ (by
                  have v3 := (hVs.get 3 (hr { on := 3, ground := .data } (by simp) rfl) rfl)
                  have v7 := (hVs.get 7 (hr { on := 7, ground := .data } (by simp) rfl) rfl)
                  have v10 := (hVs.get 10 (hr { on := 10, ground := .data } (by simp) rfl) rfl)
                  rw [List.map_toArray]
                  show [((0 : Nat), V 3), (1, V 7), (3, V 10)].toArray = _
                  rw [v3, v7, v10]) (built_aut3 kn ks t3) (hK _ _ ⟨hVs.set rfl, hN.ne (by decide) (Below.refl _ _), hb⟩)
            · exact op_alloc 26 rfl (autV noA) alloc_aut (hK _ _ ⟨hVs.off rfl, NewC.same hb.size, hb.alloc hb.size _⟩)
          rintro q V wq hall ⟨hVs, hN, hb⟩
          have v0 := hVs.get 0 (hall 0 (by decide)) rfl
          have v1 := hVs.get 1 (hall 1 (by decide)) rfl
          have v2 := hVs.get 2 (hall 2 (by decide)) rfl
          have v3 := hVs.get 3 (hall 3 (by decide)) rfl
          have v4 := hVs.get 4 (hall 4 (by decide)) rfl
          have v5 := hVs.get 5 (hall 5 (by decide)) rfl
          have v6 := hVs.get 6 (hall 6 (by decide)) rfl
          have v7 := hVs.get 7 (hall 7 (by decide)) rfl
          have v8 := hVs.get 8 (hall 8 (by decide)) rfl
          have v9 := hVs.get 9 (hall 9 (by decide)) rfl
          have v10 := hVs.get 10 (hall 10 (by decide)) rfl
          have v11 := hVs.get 11 (hall 11 (by decide)) rfl
          obtain ⟨gA, v12, hgA, hCA⟩ := hN (hall 12 (by decide))
          simp only [List.take_succ_cons, List.take_zero, List.drop_succ_cons, List.drop_zero, putAll, Nat.zero_add, Nat.reduceAdd, v0, v1, v2, v3, v4, v5, v6, v7, v8, v9, v10, v11, v12, Act.put, List.setIfInBounds_toArray, List.set_cons_zero, List.set_cons_succ]
          clear hVs v0 v1 v2 v3 v4 v5 v6 v7 v8 v9 v10 v11 v12 hall hN
          have HCA := Lib.hid hCA
          have HGA := Lib.hid hgA
          have HBQ := Lib.hid hb
          have HSZ := Lib.hid (show (Tryd.prog.info? 26).map (·.size) = some (autV ⟨kn, ks, zeroI, t3⟩).size from sizeAV zeroI_ok)
          clear hCA hgA hb HC0 HC1 HN0 HN1
          refine wpList_store_cells rfl 26 _ _ rfl rfl gA (autV noA) (autV ⟨kn, ks, zeroI, t3⟩) 26 rfl rfl HCA.out HSZ.out (by rw [autV_size noA_ok, autV_size zeroI_ok]) (autV_all _) ?_
          intro w3 hc hb
          have HC3' := Lib.hid hc.out
          have HB3 := Lib.hid (show Below w2.heap.size w2 w3 from But.toBelow HBQ.out hb.out HGA.out HBQ.out.size)
          clear hc hb HCA HBQ
          have HP0 := Lib.hid (show Cells gA 26 (autV ⟨kn, ks, idP t2 0, t3⟩) w3 from HC3'.out)
          clear HC3'
          go_wp2_with fail
          go_loopw [47] (fun i wq => ∃ j : Nat, j ≤ 32 ∧ i = .int .i64 j ∧ Cells gA 26 (autV ⟨kn, ks, idP t2 j, t3⟩) wq ∧ Below w2.heap.size w2 wq) (fun i _ => 32 - (intOf i).toNat)
          case atStart => exact ⟨0, by omega, rfl, HP0.out, HB3.out⟩
          case round =>
            clear HP0
            obtain ⟨j, hj, rfl, hc, hb⟩ := hrel
            have HCJ := Lib.hid hc
            have HBJ := Lib.hid hb
            clear hc hb
            have HOKJ := Lib.hid (show IdOk (idP t2 j) from idP_ok16 HL2.out hj)
            by_cases hlk : j < 32
            · have hks : j < t2.length := by rw [HL2.out]; exact hlk
              have cs2 := HC2.out wr HBJ.out
              have cp := (aut_cells (a := ⟨kn, ks, idP t2 j, t3⟩) HOKJ.out HCJ.out).2.2.1
              have c2 := cp j (.int .u8 (((idP t2 j).getD j 0 : Nat) : Int)) (by
                rw [nums, List.getElem?_map, List.getElem?_eq_getElem (by rw [HOKJ.out.1]; exact hlk), List.getD_eq_getElem?_getD, List.getElem?_eq_getElem (by rw [HOKJ.out.1]; exact hlk)]
                rfl)
              have hf := HCJ.out.frozen (2 + j)
              have he := HCJ.out.set (2 + j) (.int .u8 ((t2[j]'hks).toNat : Int))
              rw [setA_hash _ HOKJ.out j _ hlk] at he
              simp only [idP_step HL2.out hlk] at he
              have HSJ := Lib.hid he
              have hat : ∀ h, ((⟨t2.toArray⟩ : ByteArray)[j]'h) = t2[j]'hks := fun _ => rfl
              have b3 : (j : Int) < (t2.length : Int) := by omega
              have b1 : (j : Int) < 32 := by omega
              generalize t2[j]'hks = x at hat HSJ
              generalize (idP t2 j).getD j 0 = y at c2
              clear cp he
              go_wp2_with fail
              exact ⟨⟨j + 1, by omega, by go_num, HSJ.out, But.toBelow HBJ.out ((But.refl gA wr).setCell _ _) HGA.out HBJ.out.size⟩, by simp [intOf]; omega⟩
            · obtain rfl : j = 32 := by omega
              rw [show ((32 : Nat) : Int) = 32 from rfl]
              rw [idP_full HL2.out] at HCJ HOKJ
              obtain ⟨c0, c1, _, _⟩ := aut_cells (a := ⟨kn, ks, byteNs t2, t3⟩) HOKJ.out HCJ.out
              have HXR := Lib.hid (HX2.out.below HBJ.out)
              have HBR := Lib.hid (HB2.out.trans (HBJ.out.mono HB2.out.size))
              have HSF := Lib.hid (sizeAV (a := ⟨kn, ks, byteNs t2, t3⟩) HOKJ.out)
              clear HX2 HB2 HB3 HBJ
              by_cases h1 : kn < 0
              · have HR := Shut.mk (show readA s = none by rw [HRB.out, if_neg (by omega)])
                go_wp2_with (first | (refine wpList_build_val rfl 26 #[] rfl [] _ rfl built_aut0 ?_) | (refine wpList_store_cells rfl 26 _ _ rfl rfl w.heap.size (autV noA) (autV noA) 26 rfl rfl HXR.out HS.out rfl (autV_all noA) ?_))
                intro w9 hc hb
                have HX9 := Lib.hid hc.out
                have HB9 := Lib.hid (show Below w.heap.size w w9 from But.toBelow HBR.out hb.out (Nat.le_refl _) HBR.out.size)
                clear hc hb HXR HBR
                go_wp2_with fail
                refine bodyPost_ret (results_cells_tmp rfl _ _ w.heap.size (autV noA) 26 _ _ rfl rfl HX9.out Tryd.underlying26 rfl HS.out) rfl ?_
                exact ⟨by rw [HR.out]; rfl, HB9.out⟩
              · by_cases h2 : 4 < kn
                · have HR := Shut.mk (show readA s = none by rw [HRB.out, if_neg (by omega)])
                  go_wp2_with (first | (refine wpList_build_val rfl 26 #[] rfl [] _ rfl built_aut0 ?_) | (refine wpList_store_cells rfl 26 _ _ rfl rfl w.heap.size (autV noA) (autV noA) 26 rfl rfl HXR.out HS.out rfl (autV_all noA) ?_))
                  intro w9 hc hb
                  have HX9 := Lib.hid hc.out
                  have HB9 := Lib.hid (show Below w.heap.size w w9 from But.toBelow HBR.out hb.out (Nat.le_refl _) HBR.out.size)
                  clear hc hb HXR HBR
                  go_wp2_with fail
                  refine bodyPost_ret (results_cells_tmp rfl _ _ w.heap.size (autV noA) 26 _ _ rfl rfl HX9.out Tryd.underlying26 rfl HS.out) rfl ?_
                  exact ⟨by rw [HR.out]; rfl, HB9.out⟩
                · by_cases h3 : ks < 0
                  · have HR := Shut.mk (show readA s = none by rw [HRB.out, if_neg (by omega)])
                    go_wp2_with (first | (refine wpList_build_val rfl 26 #[] rfl [] _ rfl built_aut0 ?_) | (refine wpList_store_cells rfl 26 _ _ rfl rfl w.heap.size (autV noA) (autV noA) 26 rfl rfl HXR.out HS.out rfl (autV_all noA) ?_))
                    intro w9 hc hb
                    have HX9 := Lib.hid hc.out
                    have HB9 := Lib.hid (show Below w.heap.size w w9 from But.toBelow HBR.out hb.out (Nat.le_refl _) HBR.out.size)
                    clear hc hb HXR HBR
                    go_wp2_with fail
                    refine bodyPost_ret (results_cells_tmp rfl _ _ w.heap.size (autV noA) 26 _ _ rfl rfl HX9.out Tryd.underlying26 rfl HS.out) rfl ?_
                    exact ⟨by rw [HR.out]; rfl, HB9.out⟩
                  · have HR := Shut.mk (show readA s = some ⟨kn, ks, byteNs t2, t3⟩ by rw [HRB.out, if_pos (by omega)])
                    go_wp2_with (first | (refine wpList_load_cells rfl 26 _ rfl gA (autV ⟨kn, ks, byteNs t2, t3⟩) 26 _ rfl HCJ.out Tryd.underlying26 rfl HSF.out ?_) | (refine wpList_store_cells rfl 26 _ _ rfl rfl w.heap.size (autV noA) (autV ⟨kn, ks, byteNs t2, t3⟩) 26 rfl rfl HXR.out HSF.out (by rw [autV_size noA_ok, autV_size HOKJ.out]) (autV_all _) ?_))
                    intro w9 hc hb
                    have HX9 := Lib.hid hc.out
                    have HB9 := Lib.hid (show Below w.heap.size w w9 from But.toBelow HBR.out hb.out (Nat.le_refl _) HBR.out.size)
                    clear hc hb HXR HBR
                    go_wp2_with fail
                    refine bodyPost_ret (results_cells_tmp rfl _ _ w.heap.size (autV ⟨kn, ks, byteNs t2, t3⟩) 26 _ _ rfl rfl HX9.out Tryd.underlying26 rfl HSF.out) rfl ?_
                    exact ⟨by rw [HR.out]; rfl, HB9.out⟩
      · have g2 : ((r2 : Int) == 32) = false := by simp; omega
        have HR := Shut.mk (show readA s = none by rw [HRA.out, if_neg (by omega)])
        go_wp2_with (first | (refine wpList_build_val rfl 26 #[] rfl [] _ rfl built_aut0 ?_) | (refine wpList_store_cells rfl 26 _ _ rfl rfl w.heap.size (autV noA) (autV noA) 26 rfl rfl HX2.out HS.out rfl (autV_all noA) ?_))
        intro w9 hc hb
        have HX9 := Lib.hid hc.out
        have HB9 := Lib.hid (show Below w.heap.size w w9 from But.toBelow HB2.out hb.out (Nat.le_refl _) HB2.out.size)
        clear hc hb HX2 HB2
        go_wp2_with fail
        refine bodyPost_ret (results_cells_tmp rfl _ _ w.heap.size (autV noA) 26 _ _ rfl rfl HX9.out Tryd.underlying26 rfl HS.out) rfl ?_
        exact ⟨by rw [HR.out]; rfl, HB9.out⟩
    · have hni : ((n : Int) == 4) = false := by simp; omega
      have HR := Shut.mk (readA_parts HL.out (by rw [hn]; exact h4))
      clear HSA hn HLR
      go_wp2_with (first | (refine wpList_build_val rfl 26 #[] rfl [] _ rfl built_aut0 ?_) | (refine wpList_store_cells rfl 26 _ _ rfl rfl w.heap.size (autV noA) (autV noA) 26 rfl rfl HX2.out HS.out rfl (autV_all noA) ?_))
      intro w9 hc hb
      have HX9 := Lib.hid hc.out
      have HB9 := Lib.hid (show Below w.heap.size w w9 from But.toBelow HB2.out hb.out (Nat.le_refl _) HB2.out.size)
      clear hc hb HX2 HB2
      go_wp2_with fail
      refine bodyPost_ret (results_cells_tmp rfl _ _ w.heap.size (autV noA) 26 _ _ rfl rfl HX9.out Tryd.underlying26 rfl HS.out) rfl ?_
      exact ⟨by rw [HR.out]; rfl, HB9.out⟩
end Go.Proofs.YtpfhlhcnmeodbaaDoor
namespace Go.Proofs.YtpfhlhcnmeodbaaDoor
open Go.RowKit Go.BigFrame
set_option maxHeartbeats 4000000 in
set_option maxRecDepth 100000 in
theorem ref_authText (a : AuthN) (hn : a.node ≤ 9223372036854775807) (hi : a.seq ≤ 9223372036854775807) (hh : IdOk a.hash) (hs : a.sig.length ≤ 1000000) (w : World) :
    Calls Tryd.prog 19 #[.agg (autV a)] w fun r w' => r = .returned (.string ⟨(authB a).toArray⟩) ∧ Below w.heap.size w w' := by
  have hx1 : Cells w.heap.size 26 (autV a) (w.alloc (.cells (autV a) 26)) := heap_alloc_new w _
  have HX1 := Lib.hid hx1
  have HB := Lib.hid (show Below w.heap.size w (w.alloc (.cells (autV a) 26)) from (Below.refl _ _).alloc (Nat.le_refl _) _)
  have HH := Lib.hid hh
  have HLEN := Lib.hid (authB_len hn hi hh hs)
  obtain ⟨n, hn2⟩ : ∃ n, a.node = n := ⟨_, rfl⟩
  obtain ⟨i, hi2⟩ : ∃ i, a.seq = i := ⟨_, rfl⟩
  rw [hn2] at hn
  rw [hi2] at hi
  have HN := Lib.hid (fun w' => ref_num16 n w' hn)
  have HI := Lib.hid (fun w' => ref_num16 i w' hi)
  have HNE := Shut.mk hn2
  have HIE := Shut.mk hi2
  clear hx1 hh hn2 hi2
  go_enter Tryd.func19, Tryd.ntmps19
  go_upto_region 1 with (fail)
  obtain ⟨w1, hw1⟩ : ∃ x, x = w.alloc (.cells (autV a) 26) := ⟨_, rfl⟩
  rw [← hw1] at HX1 HB ⊢
  clear hw1
  obtain ⟨c0, c1, c2, c3⟩ := aut_cells HH.out HX1.out
  rw [HNE.out] at c0
  rw [HIE.out] at c1
  have hg := HX1.out.lt
  have HC0 := Lib.hid (fun (w' : World) (q : Below w1.heap.size w1 w') => (q.cell (p := ⟨w.heap.size, 0, none⟩) hg).trans c0)
  have HC1 := Lib.hid (fun (w' : World) (q : Below w1.heap.size w1 w') => (q.cell (p := ⟨w.heap.size, 1, none⟩) hg).trans c1)
  have HC2 := Lib.hid (fun (w' : World) (q : Below w1.heap.size w1 w') => conv_mid (P := Tryd.prog) (src := 73) (dst := 9) (c := 32) Tryd.underlying73 Tryd.underlying5 Tryd.underlying9 HH.out.1.symm HH.out.2 (rangeAt_belowI c2 q hg))
  have HC3 := Lib.hid (fun (w' : World) (q : Below w1.heap.size w1 w') => (q.cell (p := ⟨w.heap.size, 34, none⟩) hg).trans c3)
  clear c0 c1 c2 c3 hg
  refine wp_region_class_tail (fun w' => Below w1.heap.size w1 w') 11 (by kernel_rfl) (by kernel_rfl) (Below.refl _ _).drew ?_
  simp only [List.take_succ_cons, List.take_zero, List.drop_succ_cons, List.drop_zero]
  repeat (first
    | (go_big_quiet_want; refine quiet_load_cell 3 _ rfl ⟨w.heap.size, 0, none⟩ _ rfl HC0.out Tryd.isAgg3 ?_; go_big_quiet_on; simp only [Act.put, List.setIfInBounds_toArray, List.set_cons_zero, List.set_cons_succ])
    | (go_big_quiet_want; refine quiet_load_cell 3 _ rfl ⟨w.heap.size, 1, none⟩ _ rfl HC1.out Tryd.isAgg3 ?_; go_big_quiet_on; simp only [Act.put, List.setIfInBounds_toArray, List.set_cons_zero, List.set_cons_succ])
    | (go_big_quiet_want; refine quiet_load_cell 9 _ rfl ⟨w.heap.size, 34, none⟩ _ rfl HC3.out Tryd.isAgg9 ?_; go_big_quiet_on; simp only [Act.put, List.setIfInBounds_toArray, List.set_cons_zero, List.set_cons_succ])
    | (go_big_quiet_want; refine quiet_conv 73 9 _ rfl (.slice (some ⟨w.heap.size, 2, none⟩) 32 32) _ rfl HC2.out ?_; go_big_quiet_on; simp only [Act.put, List.setIfInBounds_toArray, List.set_cons_zero, List.set_cons_succ])
    | go_big_quiet_step ((intro hs'; first
        | (go_at_call_of 44 (Value.int .i64 n); exact (HN.out _).mono fun e w' h => ⟨h.1, hs'.trans (h.2.mono hs'.size)⟩)
        | (go_at_call_of 44 (Value.int .i64 i); exact (HI.out _).mono fun e w' h => ⟨h.1, hs'.trans (h.2.mono hs'.size)⟩)
        | rfl)))
  refine wpQuiet_nil ?_
  intro w2 hs2
  have HB2 := Lib.hid (HB.out.trans (hs2.mono HB.out.size))
  clear hs2 HX1 HB HC0 HC1 HC2 HC3 HN HI
  go_wp2_with fail
  refine (rlistref_any (some ⟨w2.heap.size, 0, none⟩) 4 [numB n.toNat, numB i.toNat, txt a.hash, a.sig] _ (at_four9 w2 _ _ _ _) (by simp) (by have := HLEN.out; rw [authB, HNE.out, HIE.out] at this; omega)).mono ?_
  rintro e w3 ⟨rfl, hb⟩
  have HB3 := Lib.hid (HB2.out.trans (((Below.refl _ w2).alloc (Nat.le_refl _) _).trans (hb.mono (by simp)) |>.mono HB2.out.size))
  clear hb HB2
  go_wp2_with fail
  go_ret
  exact ⟨by rw [authB, HNE.out, HIE.out]; rfl, HB3.out⟩
end Go.Proofs.YtpfhlhcnmeodbaaDoor
namespace Go.Proofs.YtpfhlhcnmeodbaaDoor
open Go.RowKit Go.ChangeShapes Go.WideShapes Go.Deep
structure AuthN.In (a : AuthN) : Prop where
  nlow : -9223372036854775808 ≤ a.node
  nhigh : a.node ≤ 9223372036854775807
  slow : -9223372036854775808 ≤ a.seq
  shigh : a.seq ≤ 9223372036854775807
  hash : IdOk a.hash
  sig : a.sig.length ≤ 140737488351232
set_option maxRecDepth 100000 in
theorem open_aut_cells {H : Type} {enc : TypeId × Value → H} {W : World} {n : Nat} {cs : List Value} {x : DataW H × List MemPlace}
    (h : DataW.trod enc Tryd.prog W 0 (fun _ => true) true n 26 cs = some x) (hwt : ∀ n ∈ DataW.weights Tryd.prog 26 x.1, n ≤ 140737488351232) :
    ∃ a : AuthN, cs = autL a ∧ a.In := by
  obtain ⟨xs, m, _, hx, hcl, hxl, hf⟩ := DataW.trod_struct Tryd.underlying26 h
  have hci : Tryd.prog.cellsOf 3 = 1 := by kernel_rfl
  have hcs : Tryd.prog.cellsOf 9 = 1 := by kernel_rfl
  have hcr : Tryd.prog.cellsOf 24 = 32 := by kernel_rfl
  have hce : Tryd.prog.cellsOf 26 = 35 := by kernel_rfl
  have hcu : Tryd.prog.cellsOf 5 = 1 := by kernel_rfl
  rw [hce] at hcl
  match xs, hxl with
  | [x0, x1, x2, x3], _ =>
  have t0 : DataW.trod enc Tryd.prog W 0 (fun _ => true) true m 3 ((cs.drop 0).take (Tryd.prog.cellsOf 3)) = some x0 := hf 0 _ rfl
  have t1 : DataW.trod enc Tryd.prog W 0 (fun _ => true) true m 3 ((cs.drop 1).take (Tryd.prog.cellsOf 3)) = some x1 := hf 1 _ rfl
  have t2 : DataW.trod enc Tryd.prog W 0 (fun _ => true) true m 24 ((cs.drop 2).take (Tryd.prog.cellsOf 24)) = some x2 := hf 2 _ rfl
  have t3 : DataW.trod enc Tryd.prog W 0 (fun _ => true) true m 9 ((cs.drop 34).take (Tryd.prog.cellsOf 9)) = some x3 := hf 3 _ rfl
  rw [hci] at t0 t1
  rw [hcr] at t2
  rw [hcs] at t3
  have hx1 : x.1 = .agg [x0.1, x1.1, x2.1, x3.1] := congrArg Prod.fst hx
  rw [hx1] at hwt
  simp only [DataW.weights, Tryd.underlying26] at hwt
  obtain ⟨k, e0, _, w0⟩ := DataW.trod_int Tryd.underlying3 t0
  obtain ⟨a, e1, _, w1⟩ := DataW.trod_int Tryd.underlying3 t1
  obtain ⟨l, e2, h41, h42⟩ := trod_bytesI Tryd.underlying24 Tryd.underlying5 hcu hcr t2
  obtain ⟨s3, e3, d3, _⟩ := DataW.trod_string Tryd.underlying9 t3
  have q3 : s3.data.toList.length ≤ 140737488351232 := hwt _ (by
    simp only [List.map_cons, List.map_nil, DataW.weightsEach, List.mem_append, d3, weights_one, List.mem_singleton]
    exact .inr (.inr (.inr (.inl trivial))))
  simp only [Lit.wf, Bool.and_eq_true, decide_eq_true_eq] at w0 w1
  refine ⟨⟨k, a, l, s3.data.toList⟩, ?_, ⟨w0.1, w0.2, w1.1, w1.2, ⟨h41, h42⟩, q3⟩⟩
  have hsplit : cs = ((cs.drop 0).take 1 ++ (cs.drop 1).take 1) ++ ((cs.drop 2).take 32 ++ (cs.drop 34).take 1) := by
    have s1 : ∀ i n, cs.drop i = (cs.drop i).take n ++ cs.drop (i + n) := fun i n => by rw [← List.drop_drop, List.take_append_drop]
    have hlast : (cs.drop 34).take 1 = cs.drop 34 := List.take_of_length_le (by rw [List.length_drop]; omega)
    rw [hlast]
    conv => lhs; rw [← List.drop_zero (l := cs), s1 0 1, s1 1 1, s1 2 32]
    simp only [List.append_assoc]
  rw [hsplit, e0, e1, e2, e3]
  rfl
set_option maxRecDepth 100000 in
theorem open_aut {H : Type} {enc : TypeId × Value → H} {W : World} {v : Value} {d : DataW H} {p : List MemPlace} {base : Nat} (hv : Value.okWide Tryd.prog W .any base 26 v)
    (h : DataW.Trod enc Tryd.prog W 0 (fun _ => true) true 26 v d p) (hwt : ∀ n ∈ DataW.weights Tryd.prog 26 d, n ≤ 140737488351232) :
    ∃ x : AuthN, v = .agg (autV x) ∧ x.In := by
  obtain ⟨cs, rfl, _⟩ := okWide_struct Tryd.underlying26 hv
  obtain ⟨fuel, hf⟩ := h
  obtain ⟨x, e, hx⟩ := open_aut_cells hf hwt
  exact ⟨x, congrArg Value.agg (Array.ext' (by rw [autV, List.toList_toArray]; exact e)), hx⟩
end Go.Proofs.YtpfhlhcnmeodbaaDoor
namespace Go.Proofs.YtpfhlhcnmeodbaaDoor
open Go.RowKit Go.BigFrame
theorem quiet_un {P : Program} {o : Oper} {a : Act} {C : World → Prop} {K : Act → Prop} (op : UnOp) (t : TypeId) (x : Operand) (ho : o.op = .unOp op t x) (vx r : Value) (hx : a.eval x = vx)
    (hr : ∀ w, (Op.unary op vx).run P w = .ok r w) (hk : K (a.put o.dst r)) : o.quiet P a C K := by
  refine ⟨_, fun w hw => ?_, hk⟩
  unfold Oper.quietAt execOp
  simp only [ho, hx, Sem.run_bind, Sem.run_pure, hr, Result.andThen_ok]
  exact ⟨rfl, rfl⟩
end Go.Proofs.YtpfhlhcnmeodbaaDoor
namespace Go.Proofs.YtpfhlhcnmeodbaaDoor.chainLinks
open Go.RowKit Go.BigFrame Go.Proofs.YtpfhlhcnmeodbaaDoor
theorem of_in {A : List EntN} (h : ∀ x ∈ A, x.In) : ∀ x ∈ A, x.Len ∧ x.seq < 9223372036854775808 := fun x hx => ⟨(h x hx).len16, (h x hx).fit.seq⟩
theorem index_id (b o n c j : Nat) (hj : j < n) (w : World) : (Instr.indexAt 29 (.slice (some ⟨b, o, none⟩) n c) (.int .i64 (j : Int))).run Tryd.prog w = .ok (.pointer (some ⟨b, o + j * 32, none⟩)) w := by
  have h1 : (j : Int) < (n : Int) := by omega
  go_simp
theorem guard_neq (x y : Operand) (u v : Array Value) (w : World) : (eqGuard .neq 24 x y (.agg u) (.agg v)).run Tryd.prog w = .ok () w := run_eqGuard_agg w .neq 24 x y u v (by kernel_rfl)
theorem neq_same (a : List Nat) (ha : IdOk a) (w : World) : (binOp .neq 24 (.agg (nums .u8 a).toArray) (.agg (nums .u8 a).toArray)).run Tryd.prog w = .ok (.bool false) w := by
  rw [run_neq_struct, equal_idI a a ha.1 ha.1 ha.2 ha.2]
  simp
theorem eql_same (a : List UInt8) (w : World) : (binOp .eql 9 (.string ⟨a.toArray⟩) (.string ⟨a.toArray⟩)).run Tryd.prog w = .ok (.bool true) w := by
  go_simp
theorem row_at {ao : Option Addr} {n j : Nat} {L : List (List Nat)} {w : World} {x : List Nat} (h : IAt ao L w) (hn : L.length = n) (hj : j < n) (hx : L[j]? = some x) : ∃ b o, ao = some ⟨b, o, none⟩ ∧ b < w.heap.size ∧ w.rangeAt b (o + j * 32) (nums .u8 x) := by
  obtain ⟨b, o, rfl, hb⟩ := h.some (by omega)
  refine ⟨b, o, rfl, hb, ?_⟩
  have h1 := h.get (i := j) (by omega)
  rw [List.getD_eq_getElem?_getD, hx] at h1
  exact h1
set_option maxHeartbeats 8000000 in
set_option maxRecDepth 100000 in
theorem walk (w : World) (hk : KAt w) (p : List Nat) (hp : IdOk p) (i : Int) (wi : (Lit.int .i64 i).wf = true) (ao : Option Addr) (A : List EntN) (ca : Nat) (hat : EntsAt ao A w) (hA : ∀ x ∈ A, x.In) (hn : A.length ≤ 140737488351232) (a : AuthN) (ha : a.In) (s : List UInt8) (hs : s.length ≤ 140737488351232) :
    Calls Tryd.prog 3 #[.agg (nums .u8 p).toArray, .int .i64 i, .slice ao A.length ca, .agg (autV a), .string ⟨s.toArray⟩] w fun e w' => e = .returned (.bool true) ∧ Below w.heap.size w w' := by
  have HK := Lib.hid hk
  have HAT := Lib.hid hat
  have HAI := Lib.hid hA
  have HP := Lib.hid hp
  have HA := Lib.hid ha
  have HGA := Lib.hid (fun w' (b : Below w.heap.size w w') => great16_any ao A ca w' (fun x hx => (hA x hx).len16) hn (RAt.below hat b))
  have BI := bounds_i64 wi
  obtain ⟨n, hnn⟩ : ∃ n, A.length = n := ⟨_, rfl⟩
  have HN := Shut.mk hnn
  rw [hnn] at hn HGA ⊢
  have HSP := Lib.hid (show (Tryd.prog.info? 22).map (·.size) = some p.length by rw [HP.out.1]; kernel_rfl)
  have HSX := Lib.hid (sizeAV ha.hash)
  have hsg := ha.sig
  obtain ⟨sl, hsl⟩ : ∃ n, a.sig.length = n := ⟨_, rfl⟩
  have HSLN := Shut.mk hsl
  rw [hsl] at hsg
  obtain ⟨tl, htl⟩ : ∃ n, s.length = n := ⟨_, rfl⟩
  have HTLN := Shut.mk htl
  have HTL := Shut.mk (show (⟨s.toArray⟩ : ByteArray).size = tl by rw [← htl]; simp [ByteArray.size])
  rw [htl] at hs
  clear hk hat hA hp hnn wi ha hsl
  go_enter Tryd.func3, Tryd.ntmps3
  go_upto_region 1 with (fail)
  obtain ⟨w1, hw1⟩ : ∃ x', x' = (w.alloc (.cells (nums .u8 p).toArray 22)).alloc (.cells (autV a) 26) := ⟨_, rfl⟩
  rw [← hw1]
  have hb1 : Below w.heap.size w w1 := by rw [hw1]; exact ((Below.refl _ _).alloc (Nat.le_refl _) _).alloc (by rw [World.size_alloc]; exact Nat.le_succ _) _
  have HP1 := Lib.hid (show Blk w.heap.size 22 .u8 p w1 by rw [hw1]; exact Cells.alloc (heap_alloc_new w _) _)
  have HX1 := Lib.hid (show Cells (w.heap.size + 1) 26 (autV a) w1 by
    rw [hw1]
    have h := heap_alloc_new (w.alloc (.cells (nums .u8 p).toArray 22)) (.cells (autV a) 26)
    rw [World.size_alloc] at h
    exact h)
  have HB1 := Lib.hid hb1
  have HK1 := Lib.hid (HK.out.below hb1)
  obtain ⟨gp, hgp⟩ : ∃ g, g = w.heap.size := ⟨_, rfl⟩
  obtain ⟨gx, hgx⟩ : ∃ g, g = w.heap.size + 1 := ⟨_, rfl⟩
  rw [← hgx] at HX1 ⊢
  rw [← hgp] at HP1 ⊢
  clear hb1 hw1 hgp hgx
  go_wp2_with fail
  refine (alive16_any w1 HK1.out).mono ?_
  rintro e w2 ⟨rfl, hb2⟩
  have HP2 := Lib.hid (HP1.out.below hb2)
  have HX2 := Lib.hid (HX1.out.below hb2)
  have HB2 := Lib.hid (HB1.out.trans (hb2.mono HB1.out.size))
  clear hb2 HP1 HX1 HB1 HK1
  go_wp2_with fail
  refine (HGA.out w2 HB2.out).mono ?_
  rintro e w4 ⟨⟨z1, rfl, hz1⟩, hb3⟩
  have HP4 := Lib.hid (HP2.out.below hb3)
  have HX4 := Lib.hid (HX2.out.below hb3)
  have HB4 := Lib.hid (HB2.out.trans (hb3.mono HB2.out.size))
  clear hb3 HP2 HX2 HB2 HGA
  cases z1 with
  | true =>
    go_wp2_with fail
    go_ret
    exact ⟨rfl, HB4.out⟩
  | false =>
  have HSA := Lib.hid (hz1 rfl)
  clear hz1
  have n12 : n ≤ 12 := by have := HSA.out.1; rw [HN.out] at this; exact this
  by_cases i2 : 4611686018427387904 < i
  · go_wp2_with fail
    go_ret
    exact ⟨rfl, HB4.out⟩
  have c34 : w4.cell? ⟨gx, 34, none⟩ = some (.string ⟨a.sig.toArray⟩) := (aut_cells HA.out.hash HX4.out).2.2.2
  have hsz : (⟨a.sig.toArray⟩ : ByteArray).size = sl := by rw [← HSLN.out]; simp [ByteArray.size]
  by_cases s1 : 2000 < sl
  · have s1i : decide ((2000 : Int) < (sl : Int)) = true := decide_eq_true (by omega)
    have hl := HSLN.out
    go_wp2_with fail
    go_ret
    exact ⟨rfl, HB4.out⟩
  have s1i : decide ((2000 : Int) < (sl : Int)) = false := decide_eq_false (by omega)
  have hl := HSLN.out
  by_cases t1 : 4096 < tl
  · have t1i : decide ((4096 : Int) < (tl : Int)) = true := decide_eq_true (by omega)
    have htz := HTL.out
    have htl2 := HTLN.out
    go_wp2_with fail
    go_ret
    exact ⟨rfl, HB4.out⟩
  have t1i : decide ((4096 : Int) < (tl : Int)) = false := decide_eq_false (by omega)
  have htz := HTL.out
  have htl2 := HTLN.out
  have H3 := Lib.hid (show n ≤ 12 ∧ i ≤ 4611686018427387904 ∧ -9223372036854775808 ≤ i by omega)
  go_upto_region 5 with (fail)
  clear c34 hsz s1i hl t1i htz htl2
  have HKK := Lib.hid (HK.out.below HB4.out)
  have HAT4 := Lib.hid (HAT.out.below HB4.out)
  have HDA := Lib.hid (fun w' (b : Below w4.heap.size w4 w') => dev_walk16 p i ao A ca w' HP.out (by omega) (by rw [HN.out]; omega) (of_in HAI.out) (by rw [HN.out]; omega) (HAT4.out.below b) (HKK.out.below b))
  have HDF := Lib.hid (fun w' (b : Below w4.heap.size w4 w') => ref_walk16 p i ao A ca w' HP.out (by omega) (by rw [HN.out]; omega) (of_in HAI.out) (by rw [HN.out]; omega) (HAT4.out.below b))
  rw [HN.out] at HDA HDF
  have HSG := Lib.hid (show a.sig.length ≤ 1000000 by rw [HSLN.out]; omega)
  have HTS := Lib.hid (show s.length ≤ 1000000 by rw [HTLN.out]; omega)
  obtain ⟨XL, hXL⟩ : ∃ x, leadN p i A = x := ⟨_, rfl⟩
  have HXN := Shut.mk (show XL.length = n by rw [← hXL, leadN_len, HN.out])
  have HXI := Lib.hid (show Ids XL by rw [← hXL]; exact fun x hx => leadN_ok A p i x hx)
  rw [hXL] at HDA HDF
  clear hXL
  refine wp_region_free 9 (fun q V w' => Vals q V [(0, .agg (nums .u8 p).toArray), (1, .int .i64 i), (2, .slice ao n ca), (4, .agg (nums .u8 p).toArray), (5, .int .i64 i), (6, .slice ao n ca)] ∧ Res q V 3 (fun (v : Value) (w' : World) => ∃ (ao : Option Addr) (c : Nat), v = Value.slice ao n c ∧ IAt ao XL w') w' ∧ Res q V 7 (fun (v : Value) (w' : World) => ∃ (ao : Option Addr) (c : Nat), v = Value.slice ao n c ∧ IAt ao XL w') w' ∧ Res q V 8 (fun (v : Value) (w' : World) => ∃ (ao : Option Addr) (c : Nat), v = Value.slice ao n c ∧ IAt ao XL w') w' ∧ Below w4.heap.size w4 w') (fun _ => undef) (by kernel_rfl) (by kernel_rfl) (by kernel_rfl) (by simp only [List.take_succ_cons, List.take_zero, putAll, Act.put, List.setIfInBounds_toArray, List.set_cons_zero, List.set_cons_succ]) ⟨Vals.none, Res.none, Res.none, Res.none, (Below.refl _ _).drew⟩ ?_ ?_
  · simp only [List.take_succ_cons, List.take_zero, putAll, Nat.zero_add, Nat.reduceAdd, Act.put, List.setIfInBounds_toArray, List.set_cons_zero, List.set_cons_succ]
    refine FreeSteps.cons ?_ (FreeSteps.cons ?_ (FreeSteps.cons ?_ (FreeSteps.cons ?_ (FreeSteps.cons ?_ (FreeSteps.cons ?_ (FreeSteps.cons ?_ (FreeSteps.cons ?_ (FreeSteps.cons ?_ (FreeSteps.nil)))))))))
    all_goals (refine FreeStep.fresh rfl ?_; rintro q V wq hr hu ⟨hVs, h3, h7, h8, hb⟩ K hK)
    · exact op_load_nums 22 (.tmp 5) rfl gp .u8 p 22 _ rfl (HP4.out.below hb) Tryd.underlying22 rfl HSP.out (hK _ _ ⟨hVs.set rfl, h3.ne (by decide) (fun _ _ _ ⟨ao, c, e, h⟩ k => ⟨ao, c, e, h.below k⟩) (Below.refl _ _), h7.ne (by decide) (fun _ _ _ ⟨ao, c, e, h⟩ k => ⟨ao, c, e, h.below k⟩) (Below.refl _ _), h8.ne (by decide) (fun _ _ _ ⟨ao, c, e, h⟩ k => ⟨ao, c, e, h.below k⟩) (Below.refl _ _), hb⟩)
    · exact op_move (.tmp 1) rfl _ rfl (hK _ _ ⟨hVs.set rfl, h3.ne (by decide) (fun _ _ _ ⟨ao, c, e, h⟩ k => ⟨ao, c, e, h.below k⟩) (Below.refl _ _), h7.ne (by decide) (fun _ _ _ ⟨ao, c, e, h⟩ k => ⟨ao, c, e, h.below k⟩) (Below.refl _ _), h8.ne (by decide) (fun _ _ _ ⟨ao, c, e, h⟩ k => ⟨ao, c, e, h.below k⟩) (Below.refl _ _), hb⟩)
    · exact op_move (.tmp 2) rfl _ rfl (hK _ _ ⟨hVs.set rfl, h3.ne (by decide) (fun _ _ _ ⟨ao, c, e, h⟩ k => ⟨ao, c, e, h.below k⟩) (Below.refl _ _), h7.ne (by decide) (fun _ _ _ ⟨ao, c, e, h⟩ k => ⟨ao, c, e, h.below k⟩) (Below.refl _ _), h8.ne (by decide) (fun _ _ _ ⟨ao, c, e, h⟩ k => ⟨ao, c, e, h.below k⟩) (Below.refl _ _), hb⟩)
    · refine op_call Tryd.func10 rfl rfl rfl [.agg (nums .u8 p).toArray, .int .i64 i, .slice ao n ca] (cons_eq (hVs.get 0 (hr { on := 0, ground := .data } (by simp) rfl) rfl) (cons_eq (hVs.get 1 (hr { on := 1, ground := .data } (by simp) rfl) rfl) (cons_eq (hVs.get 2 (hr { on := 2, ground := .data } (by simp) rfl) rfl) rfl))) (HDA.out wq hb) ?_
      rintro e w' ⟨⟨vr, rfl, ho⟩, hb'⟩
      obtain ⟨ar, cr, rfl⟩ := ho.form
      have hat := ho.at HXI.out
      have hres : (fun (v : Value) (w' : World) => ∃ (ao : Option Addr) (c : Nat), v = Value.slice ao n c ∧ IAt ao XL w') (.slice ar (XL).length cr) w' := ⟨ar, cr, by rw [HXN.out], hat⟩
      exact ⟨_, rfl, (hK _ _ ⟨hVs.off rfl, .same hres, h7.ne (by decide) (fun _ _ _ ⟨ao, c, e, h⟩ k => ⟨ao, c, e, h.below k⟩) hb', h8.ne (by decide) (fun _ _ _ ⟨ao, c, e, h⟩ k => ⟨ao, c, e, h.below k⟩) hb', hb.trans (hb'.mono hb.size)⟩)⟩
    · exact op_load_nums 22 (.tmp 5) rfl gp .u8 p 22 _ rfl (HP4.out.below hb) Tryd.underlying22 rfl HSP.out (hK _ _ ⟨hVs.set rfl, h3.ne (by decide) (fun _ _ _ ⟨ao, c, e, h⟩ k => ⟨ao, c, e, h.below k⟩) (Below.refl _ _), h7.ne (by decide) (fun _ _ _ ⟨ao, c, e, h⟩ k => ⟨ao, c, e, h.below k⟩) (Below.refl _ _), h8.ne (by decide) (fun _ _ _ ⟨ao, c, e, h⟩ k => ⟨ao, c, e, h.below k⟩) (Below.refl _ _), hb⟩)
    · exact op_move (.tmp 1) rfl _ rfl (hK _ _ ⟨hVs.set rfl, h3.ne (by decide) (fun _ _ _ ⟨ao, c, e, h⟩ k => ⟨ao, c, e, h.below k⟩) (Below.refl _ _), h7.ne (by decide) (fun _ _ _ ⟨ao, c, e, h⟩ k => ⟨ao, c, e, h.below k⟩) (Below.refl _ _), h8.ne (by decide) (fun _ _ _ ⟨ao, c, e, h⟩ k => ⟨ao, c, e, h.below k⟩) (Below.refl _ _), hb⟩)
    · exact op_move (.tmp 2) rfl _ rfl (hK _ _ ⟨hVs.set rfl, h3.ne (by decide) (fun _ _ _ ⟨ao, c, e, h⟩ k => ⟨ao, c, e, h.below k⟩) (Below.refl _ _), h7.ne (by decide) (fun _ _ _ ⟨ao, c, e, h⟩ k => ⟨ao, c, e, h.below k⟩) (Below.refl _ _), h8.ne (by decide) (fun _ _ _ ⟨ao, c, e, h⟩ k => ⟨ao, c, e, h.below k⟩) (Below.refl _ _), hb⟩)
    · refine op_call Tryd.func11 rfl rfl rfl [.agg (nums .u8 p).toArray, .int .i64 i, .slice ao n ca] (cons_eq (hVs.get 4 (hr { on := 4, ground := .data } (by simp) rfl) rfl) (cons_eq (hVs.get 5 (hr { on := 5, ground := .data } (by simp) rfl) rfl) (cons_eq (hVs.get 6 (hr { on := 6, ground := .data } (by simp) rfl) rfl) rfl))) (HDF.out wq hb) ?_
      rintro e w' ⟨⟨vr, rfl, ho⟩, hb'⟩
      obtain ⟨ar, cr, rfl⟩ := ho.form
      have hat := ho.at HXI.out
      have hres : (fun (v : Value) (w' : World) => ∃ (ao : Option Addr) (c : Nat), v = Value.slice ao n c ∧ IAt ao XL w') (.slice ar (XL).length cr) w' := ⟨ar, cr, by rw [HXN.out], hat⟩
      exact ⟨_, rfl, (hK _ _ ⟨hVs.off rfl, h3.ne (by decide) (fun _ _ _ ⟨ao, c, e, h⟩ k => ⟨ao, c, e, h.below k⟩) hb', .same hres, h8.ne (by decide) (fun _ _ _ ⟨ao, c, e, h⟩ k => ⟨ao, c, e, h.below k⟩) hb', hb.trans (hb'.mono hb.size)⟩)⟩
    · have hres := h3 (hr { on := 3, ground := .data } (by simp) rfl)
      exact op_assign (.tmp 42) rfl _ rfl (hK _ _ ⟨hVs.off rfl, h3.ne (by decide) (fun _ _ _ ⟨ao, c, e, h⟩ k => ⟨ao, c, e, h.below k⟩) (Below.refl _ _), h7.ne (by decide) (fun _ _ _ ⟨ao, c, e, h⟩ k => ⟨ao, c, e, h.below k⟩) (Below.refl _ _), .same hres, hb⟩)
  rintro q V wq hall ⟨hVs, h3, h7, h8, hb⟩
  have v0 := hVs.get 0 (hall 0 (by decide)) rfl
  have v1 := hVs.get 1 (hall 1 (by decide)) rfl
  have v2 := hVs.get 2 (hall 2 (by decide)) rfl
  have hs3 := h3 (hall 3 (by decide))
  obtain ⟨u3, v3⟩ : ∃ v, V 3 = v := ⟨_, rfl⟩
  rw [v3] at hs3
  have v4 := hVs.get 4 (hall 4 (by decide)) rfl
  have v5 := hVs.get 5 (hall 5 (by decide)) rfl
  have v6 := hVs.get 6 (hall 6 (by decide)) rfl
  have hs7 := h7 (hall 7 (by decide))
  obtain ⟨u7, v7⟩ : ∃ v, V 7 = v := ⟨_, rfl⟩
  rw [v7] at hs7
  have hs8 := h8 (hall 8 (by decide))
  obtain ⟨u8, v8⟩ : ∃ v, V 8 = v := ⟨_, rfl⟩
  rw [v8] at hs8
  simp only [List.take_succ_cons, List.take_zero, List.drop_succ_cons, List.drop_zero, putAll, Nat.zero_add, Nat.reduceAdd, v0, v1, v2, v3, v4, v5, v6, v7, v8, Act.put, List.setIfInBounds_toArray, List.set_cons_zero, List.set_cons_succ]
  clear hVs v0 v1 v2 v3 v4 v5 v6 v7 v8 hall
  obtain ⟨w5, hw5⟩ : ∃ x, x = wq := ⟨_, rfl⟩
  rw [← hw5] at hb hs7 hs8 ⊢
  obtain ⟨a7, c7, rfl, hi7⟩ := hs7
  obtain ⟨a8, c8, rfl, hi8⟩ := hs8
  have HB5 := Lib.hid (HB4.out.trans (hb.mono HB4.out.size))
  have HP5 := Lib.hid (HP4.out.below hb)
  have HX5 := Lib.hid (HX4.out.below hb)
  have HI7 := Lib.hid hi7
  have HI8 := Lib.hid hi8
  clear hw5 hb hi7 hi8 hs3 HDA HDF HP4 HX4 HAT4 HKK
  have f1 : ((n : Int) != (n : Int)) = false := by simp
  go_wp2_with fail
  go_loopw [54] (fun v wr => ∃ j : Nat, j ≤ n ∧ v = .int .i64 j ∧ Below w5.heap.size w5 wr) (fun v _ => n - (intOf v).toNat)
  case atStart => exact ⟨0, Nat.zero_le _, rfl, Below.refl _ _⟩
  case round =>
    obtain ⟨w6, rfl⟩ : ∃ z, z = wr := ⟨_, rfl⟩
    obtain ⟨j, hj, rfl, hb⟩ := hrel
    have HB6 := Lib.hid hb
    have HP6 := Lib.hid (HP5.out.below hb)
    have HX6 := Lib.hid (HX5.out.below hb)
    have HI76 := Lib.hid (HI7.out.below hb)
    have HI86 := Lib.hid (HI8.out.below hb)
    clear hb
    by_cases hjn : j < n
    · obtain ⟨Z, hZ⟩ : ∃ Z, XL[j]? = some Z := ⟨_, List.getElem?_eq_getElem (by rw [HXN.out]; exact hjn)⟩
      have HZO := Lib.hid (HXI.out Z (List.mem_of_getElem? hZ))
      obtain ⟨bx, ox, rfl, hlx, hrx⟩ := row_at HI86.out HXN.out hjn hZ
      obtain ⟨yb, oy, rfl, hly, hry⟩ := row_at HI76.out HXN.out hjn hZ
      have HRX := Lib.hid (fun (w' : World) (b : Below w6.heap.size w6 w') => rangeAt_belowI hrx b hlx)
      have HRY := Lib.hid (fun (w' : World) (b : Below w6.heap.size w6 w') => rangeAt_belowI hry b hly)
      have HIX := Lib.hid (index_id bx ox n c8 j hjn)
      have HIY := Lib.hid (index_id yb oy n c7 j hjn)
      have HSZ := Lib.hid (show (Tryd.prog.info? 24).map (·.size) = some (nums .u8 Z).length by rw [nums_len, HZO.out.1]; exact Tryd.sizeI)
      have HNZ := Lib.hid (neq_same Z HZO.out)
      clear hZ hlx hrx hly hry
      go_upto_region 11 with (fail)
      refine wp_region_class (fun w' => Below w6.heap.size w6 w') (by kernel_rfl) (by kernel_rfl) (Below.refl _ _).drew ?_
      repeat (first
        | go_big_quiet_skip
        | (go_big_quiet_want; refine quiet_indexAt 29 _ _ rfl (.slice (some ⟨bx, ox, none⟩) n c8) (.int .i64 (j : Int)) _ rfl rfl HIX.out ?_; go_big_quiet_on; simp only [Act.put, List.setIfInBounds_toArray, List.set_cons_zero, List.set_cons_succ])
        | (go_big_quiet_want; refine quiet_indexAt 29 _ _ rfl (.slice (some ⟨yb, oy, none⟩) n c7) (.int .i64 (j : Int)) _ rfl rfl HIY.out ?_; go_big_quiet_on; simp only [Act.put, List.setIfInBounds_toArray, List.set_cons_zero, List.set_cons_succ])
        | (go_big_quiet_want; refine quiet_load_row 24 _ rfl bx (ox + j * 32) (nums .u8 Z) _ rfl HRX.out Tryd.underlying24 rfl HSZ.out ?_; go_big_quiet_on; simp only [Act.put, List.setIfInBounds_toArray, List.set_cons_zero, List.set_cons_succ])
        | (go_big_quiet_want; refine quiet_load_row 24 _ rfl yb (oy + j * 32) (nums .u8 Z) _ rfl HRY.out Tryd.underlying24 rfl HSZ.out ?_; go_big_quiet_on; simp only [Act.put, List.setIfInBounds_toArray, List.set_cons_zero, List.set_cons_succ])
        | (go_big_quiet_want; refine quiet_bin .neq 24 _ _ _ rfl (.agg (nums .u8 Z).toArray) (.agg (nums .u8 Z).toArray) _ rfl rfl (guard_neq _ _ _ _) HNZ.out ?_; go_big_quiet_on; simp only [Act.put, List.setIfInBounds_toArray, List.set_cons_zero, List.set_cons_succ])
        | go_big_quiet_step ((intro hs'; rfl)))
      refine wpQuiet_nil ?_
      intro w7 hs7
      have HB7 := Lib.hid (HB6.out.trans (hs7.mono HB6.out.size))
      clear hs7
      go_wp2_with fail
      exact ⟨⟨j + 1, by omega, by go_num, HB7.out⟩, by simp [intOf]; omega⟩
    · obtain rfl : j = n := by omega
      have HB6W := Lib.hid (HB5.out.trans (HB6.out.mono HB5.out.size))
      have HZE := Lib.hid (show (Tryd.prog.info? 35).bind (·.zero) = some (.agg (entL noE).toArray) by kernel_rfl)
      have HZA := Lib.hid (show (Tryd.prog.info? 26).bind (·.zero) = some (.agg (autL noA).toArray) by kernel_rfl)
      go_wp2_with fail
      go_loopw [69] (fun v wr => ∃ k : Nat, k ≤ j ∧ v = .int .i64 k ∧ Below w6.heap.size w6 wr) (fun v _ => j - (intOf v).toNat)
      case atStart => exact ⟨0, Nat.zero_le _, rfl, Below.refl _ _⟩
      case round =>
        obtain ⟨k, hkj, rfl, hb⟩ := hrel
        have HBD := Lib.hid hb
        have HPW := Lib.hid (HP6.out.below hb)
        have HXW := Lib.hid (HX6.out.below hb)
        have HBW := Lib.hid (HB6W.out.trans (hb.mono HB6W.out.size))
        have HATW := Lib.hid (HAT.out.below HBW.out)
        clear hb
        by_cases hkn : k < j
        · obtain ⟨y, hy⟩ : ∃ y, A[k]? = some y := ⟨_, List.getElem?_eq_getElem (by rw [HN.out]; exact hkn)⟩
          have HYI := Lib.hid (HAI.out y (List.mem_of_getElem? hy))
          obtain ⟨b, ob, rfl, hbl, hr⟩ := HATW.out.getM hy
          have HR := Lib.hid hr
          have HSO := Lib.hid (sizeEL HYI.out.ok)
          have HSY := Lib.hid (sizeEV HYI.out.ok)
          have HSZ := Lib.hid (show (entV noE).size = (entV y).size by rw [entV_size HYI.out.ok]; rfl)
          have HVA := Lib.hid (entV_all y)
          have HLD := Lib.hid (fun w' (q : KAt w') => dev_link16 p i y HP.out (by have := H3.out; omega) (by have := H3.out; omega) HYI.out.len16 HYI.out.fit.seq w' q)
          have HLR := Lib.hid (fun w' => ref_link p i y HP.out (by have := H3.out; omega) HYI.out.len16 HYI.out.fit.seq w')
          have HTV := Shut.mk (show (entL y).toArray = entV y from rfl)
          obtain ⟨U, hU⟩ : ∃ U, linkN p i y = U := ⟨_, rfl⟩
          have HUO := Lib.hid (show IdOk U by rw [← hU]; exact linkN_ok _ _ _)
          have HNU := Lib.hid (neq_same U HUO.out)
          rw [hU] at HLD HLR
          clear hy hr hbl hU
          go_wp2_with (first
            | (refine wpList_load_mid rfl 35 _ rfl b (ob + k * 73) rfl _ _ HR.out Tryd.underlying35 rfl HSO.out ?_)
            | (refine wpList_alloc_of rfl 35 rfl (entL noE) HZE.out ?_)
            | (refine wpList_store_cells rfl 35 _ _ rfl rfl wr.heap.size (entV noE) (entV y) 35 rfl rfl (heap_alloc_new wr _) HSY.out HSZ.out HVA.out ?_))
          intro w8 hc8 hb8
          have hb88 : Below wr.heap.size wr w8 := But.toBelow ((Below.refl _ wr).alloc (Nat.le_refl _) _) hb8.out (Nat.le_refl _) (by rw [World.size_alloc]; exact Nat.le_succ _)
          have HC8 := Lib.hid hc8.out
          have HB8 := Lib.hid (HBD.out.trans (hb88.mono HBD.out.size))
          have HK8 := Lib.hid (HK.out.below (HBW.out.trans (hb88.mono HBW.out.size)))
          have HLP := Lib.hid (fun (w' : World) (q : SS w8 w') => (HPW.out.below hb88).below q.1)
          obtain ⟨ge, hge⟩ : ∃ g, g = wr.heap.size := ⟨_, rfl⟩
          rw [← hge] at HC8 ⊢
          obtain ⟨YV, hYV⟩ : ∃ V, entV y = V := ⟨_, rfl⟩
          rw [hYV] at HC8 HSY HLD HLR
          have HLY := Lib.hid (fun (w' : World) (q : SS w8 w') => HC8.out.below q.1)
          clear hc8 hb8 hb88 hge hYV HR HSO HBW HPW HXW HATW HBD HSZ HVA HTV
          go_upto_region 17 with (fail)
          refine wp_region_class (fun w' => SS w8 w') (by kernel_rfl) (by kernel_rfl) (SS.start HK8.out) ?_
          repeat (first
            | go_big_quiet_skip
            | (go_big_quiet_want; refine quiet_load_nums 22 _ rfl gp .u8 p 22 _ rfl HLP.out Tryd.underlying22 rfl HSP.out ?_; go_big_quiet_on; simp only [Act.put, List.setIfInBounds_toArray, List.set_cons_zero, List.set_cons_succ])
            | (go_big_quiet_want; refine quiet_load_cells 35 _ rfl ge YV 35 _ rfl HLY.out Tryd.underlying35 rfl HSY.out ?_; go_big_quiet_on; simp only [Act.put, List.setIfInBounds_toArray, List.set_cons_zero, List.set_cons_succ])
            | (go_big_quiet_want; refine quiet_bin .neq 24 _ _ _ rfl (.agg (nums .u8 U).toArray) (.agg (nums .u8 U).toArray) _ rfl rfl (guard_neq _ _ _ _) HNU.out ?_; go_big_quiet_on; simp only [Act.put, List.setIfInBounds_toArray, List.set_cons_zero, List.set_cons_succ])
            | go_big_quiet_step ((intro hs'; first
                | (go_at_call 12; exact (HLD.out _ hs'.2).mono fun e w' h => ⟨h.1, hs'.next h.2⟩)
                | (go_at_call 13; exact (HLR.out _).mono fun e w' h => ⟨h.1, hs'.next h.2⟩)
                | rfl)))
          refine wpQuiet_nil ?_
          intro w9 hs9
          have HB9 := Lib.hid (HB8.out.trans (hs9.1.mono HB8.out.size))
          clear hs9
          go_wp2_with fail
          exact ⟨⟨k + 1, by omega, by go_num, HB9.out⟩, by simp [intOf]; omega⟩
        · obtain rfl : k = j := by omega
          have HRK := Lib.hid (show ∀ r, readA s = some r → authB r = s ∧ IdOk r.hash ∧ r.node ≤ 9223372036854775807 ∧ r.seq ≤ 9223372036854775807 ∧ r.sig.length ≤ 1000000 ∧ 0 ≤ r.node ∧ 0 ≤ r.seq from fun r h => by
            obtain ⟨h1, h2, h3, h4, h5, h6, h7⟩ := readA_some h
            exact ⟨h1, h2, by omega, by omega, by omega, h4, h6⟩)
          have HDR := Lib.hid (fun w' => dev_readAuth16 s w' HTS.out)
          have HRF := Lib.hid (fun w' => ref_readAuth s w' (Nat.le_trans HTS.out (by decide)))
          have HTD := Lib.hid (fun w' => dev_authText16 a HA.out.nlow HA.out.nhigh HA.out.slow HA.out.shigh HA.out.hash HSG.out w')
          have HTF := Lib.hid (fun w' => ref_authText a HA.out.nhigh HA.out.shigh HA.out.hash HSG.out w')
          have HWD := Lib.hid (fun w' => dev_word16 a.node a.seq p HA.out.nlow HA.out.nhigh HA.out.slow HA.out.shigh HP.out w')
          have HWR := Lib.hid (fun w' => ref_word a.node a.seq p HA.out.nhigh HA.out.shigh HP.out w')
          have HES := Lib.hid (eql_same s)
          obtain ⟨W, hW⟩ : ∃ W, wordB a.node a.seq p = W := ⟨_, rfl⟩
          obtain ⟨A, hAB⟩ : ∃ W, authB a = W := ⟨_, rfl⟩
          have HEW := Lib.hid (eql_same W)
          have HEA := Lib.hid (eql_same A)
          rw [hW] at HWD HWR
          rw [hAB] at HTD HTF
          clear hW hAB HI76 HI86
          obtain ⟨o, ho⟩ : ∃ o, readA s = o := ⟨_, rfl⟩
          rw [ho] at HRK HDR HRF
          clear ho
          cases o with
          | some r =>
            have HRK := Lib.hid (HRK.out r rfl)
            rw [show DrA (some r) = .tuple #[.agg (autV (r)), .int .i64 0] from rfl] at HDR
            rw [show RdA (some r) = .tuple #[.agg (autV (r)), .bool true] from rfl] at HRF
            have HRO := Lib.hid HRK.out.2.1
            have HTR := Lib.hid (fun w' => dev_authText16 r (Int.le_trans (by decide) HRK.out.2.2.2.2.2.1) HRK.out.2.2.1 (Int.le_trans (by decide) HRK.out.2.2.2.2.2.2) HRK.out.2.2.2.1 HRK.out.2.1 HRK.out.2.2.2.2.1 w')
            rw [HRK.out.1] at HTR
            have HSR := Lib.hid (sizeAV (a := r) HRO.out)
            have HEQ := Lib.hid (show ∀ w, (binOp .eql 26 (.agg (autV (r))) (.agg (autV (r)))).run Tryd.prog w = .ok (.bool true) w from fun w => by
              have h := eql_aut (r) (r) HRO.out HRO.out w
              rw [decide_eq_true (rfl : r = r)] at h
              exact h)
            have HVA := Lib.hid (autV_all (r))
            obtain ⟨RV, hRV⟩ : ∃ V, autV (r) = V := ⟨_, rfl⟩
            have HZL := Lib.hid (show (autV noA).size = RV.size from (autV_size noA_ok).trans (by rw [← hRV]; exact (autV_size HRO.out).symm))
            rw [hRV] at HSR HEQ HDR HRF HVA HTR
            clear hRV
            go_wp2_with fail
            refine (HDR.out wr).mono ?_
            rintro e w7 ⟨rfl, hb7⟩
            have HP7 := Lib.hid (HPW.out.below hb7)
            have HX7 := Lib.hid (HXW.out.below hb7)
            have HB7 := Lib.hid (HBW.out.trans (hb7.mono HBW.out.size))
            clear hb7 HPW HXW HBW
            go_wp2_with (first
              | (refine wpList_alloc_of rfl 26 rfl (autL noA) HZA.out ?_)
              | (refine wpList_store_cells rfl 26 _ _ rfl rfl w7.heap.size (autV noA) RV 26 rfl rfl (heap_alloc_new w7 _) HSR.out HZL.out HVA.out ?_))
            intro w8 hc8 hb8
            have hb88 : Below w7.heap.size w7 w8 := But.toBelow ((Below.refl _ w7).alloc (Nat.le_refl _) _) hb8.out (Nat.le_refl _) (by rw [World.size_alloc]; exact Nat.le_succ _)
            have H18 := Lib.hid hc8.out
            have HP8 := Lib.hid (HP7.out.below hb88)
            have HX8 := Lib.hid (HX7.out.below hb88)
            have HB8 := Lib.hid (HB7.out.trans (hb88.mono HB7.out.size))
            obtain ⟨g1, hg1⟩ : ∃ z, z = w7.heap.size := ⟨_, rfl⟩
            rw [← hg1] at H18 ⊢
            clear hc8 hb8 hb88 hg1 HP7 HX7 HB7
            go_wp2_with fail
            refine (HRF.out w8).mono ?_
            rintro e w8b ⟨rfl, hb⟩
            have H18b := Lib.hid (H18.out.below hb)
            have HP8b := Lib.hid (HP8.out.below hb)
            have HX8b := Lib.hid (HX8.out.below hb)
            have HB8b := Lib.hid (HB8.out.trans (hb.mono HB8.out.size))
            clear hb H18 HP8 HX8 HB8
            go_wp2_with (first
              | (refine wpList_alloc_of rfl 26 rfl (autL noA) HZA.out ?_)
              | (refine wpList_store_cells rfl 26 _ _ rfl rfl w8b.heap.size (autV noA) RV 26 rfl rfl (heap_alloc_new w8b _) HSR.out HZL.out HVA.out ?_))
            intro w9 hc9 hb9
            have hb99 : Below w8b.heap.size w8b w9 := But.toBelow ((Below.refl _ w8b).alloc (Nat.le_refl _) _) hb9.out (Nat.le_refl _) (by rw [World.size_alloc]; exact Nat.le_succ _)
            have H29 := Lib.hid hc9.out
            have H19 := Lib.hid (H18b.out.below hb99)
            have HP9 := Lib.hid (HP8b.out.below hb99)
            have HX9 := Lib.hid (HX8b.out.below hb99)
            have HB9 := Lib.hid (HB8b.out.trans (hb99.mono HB8b.out.size))
            obtain ⟨g2, hg2⟩ : ∃ z, z = w8b.heap.size := ⟨_, rfl⟩
            rw [← hg2] at H29 ⊢
            clear hc9 hb9 hb99 hg2 H18b HP8b HX8b HB8b HVA HZL
            have HL1 := Lib.hid (fun (w' : World) (q : Below w9.heap.size w9 w') => H19.out.below q)
            have HL2 := Lib.hid (fun (w' : World) (q : Below w9.heap.size w9 w') => H29.out.below q)
            have HLP := Lib.hid (fun (w' : World) (q : Below w9.heap.size w9 w') => HP9.out.below q)
            have HLX := Lib.hid (fun (w' : World) (q : Below w9.heap.size w9 w') => HX9.out.below q)
            have hcx := aut_cells HA.out.hash HX9.out
            have hgl := HX9.out.lt
            have HX0 := Lib.hid (fun (w' : World) (q : Below w9.heap.size w9 w') => (q.cell (p := ⟨gx, 0, none⟩) hgl).trans hcx.1)
            have HX1 := Lib.hid (fun (w' : World) (q : Below w9.heap.size w9 w') => (q.cell (p := ⟨gx, 1, none⟩) hgl).trans hcx.2.1)
            obtain ⟨AV, hAV⟩ : ∃ V, autV a = V := ⟨_, rfl⟩
            rw [hAV] at HTD HTF HLX HSX
            clear hcx hgl hAV
            have HNOT := Lib.hid (show ∀ w, (Op.unary .not (.bool true)).run Tryd.prog w = .ok (.bool false) w from fun w => by kernel_rfl)
            go_upto_region 22 with (fail)
            refine wp_region_class (fun w' => Below w9.heap.size w9 w') (by kernel_rfl) (by kernel_rfl) (Below.refl _ _).drew ?_
            repeat (first
              | go_big_quiet_skip
              | (go_big_quiet_want; refine quiet_load_cells 26 _ rfl g1 RV 26 _ rfl HL1.out Tryd.underlying26 rfl HSR.out ?_; go_big_quiet_on; simp only [Act.put, List.setIfInBounds_toArray, List.set_cons_zero, List.set_cons_succ])
              | (go_big_quiet_want; refine quiet_load_cells 26 _ rfl g2 RV 26 _ rfl HL2.out Tryd.underlying26 rfl HSR.out ?_; go_big_quiet_on; simp only [Act.put, List.setIfInBounds_toArray, List.set_cons_zero, List.set_cons_succ])
              | (go_big_quiet_want; refine quiet_load_cells 26 _ rfl gx AV 26 _ rfl HLX.out Tryd.underlying26 rfl HSX.out ?_; go_big_quiet_on; simp only [Act.put, List.setIfInBounds_toArray, List.set_cons_zero, List.set_cons_succ])
              | (go_big_quiet_want; refine quiet_load_cell 3 _ rfl ⟨gx, 0, none⟩ _ rfl HX0.out Tryd.isAgg3 ?_; go_big_quiet_on; simp only [Act.put, List.setIfInBounds_toArray, List.set_cons_zero, List.set_cons_succ])
              | (go_big_quiet_want; refine quiet_load_cell 3 _ rfl ⟨gx, 1, none⟩ _ rfl HX1.out Tryd.isAgg3 ?_; go_big_quiet_on; simp only [Act.put, List.setIfInBounds_toArray, List.set_cons_zero, List.set_cons_succ])
              | (go_big_quiet_want; refine quiet_load_nums 22 _ rfl gp .u8 p 22 _ rfl HLP.out Tryd.underlying22 rfl HSP.out ?_; go_big_quiet_on; simp only [Act.put, List.setIfInBounds_toArray, List.set_cons_zero, List.set_cons_succ])
              | (go_big_quiet_want; refine quiet_bin .eql 26 _ _ _ rfl (.agg RV) (.agg RV) _ rfl rfl (guard_aut _ _ _ _) HEQ.out ?_; go_big_quiet_on; simp only [Act.put, List.setIfInBounds_toArray, List.set_cons_zero, List.set_cons_succ])
              | (go_big_quiet_want; refine quiet_un .not 4 _ rfl (.bool true) _ rfl HNOT.out ?_; go_big_quiet_on; simp only [Act.put, List.setIfInBounds_toArray, List.set_cons_zero, List.set_cons_succ])
              | (go_big_quiet_want; refine quiet_bin .eql 9 _ _ _ rfl (.string ⟨s.toArray⟩) (.string ⟨s.toArray⟩) _ rfl rfl (fun _ => rfl) HES.out ?_; go_big_quiet_on; simp only [Act.put, List.setIfInBounds_toArray, List.set_cons_zero, List.set_cons_succ])
              | (go_big_quiet_want; refine quiet_bin .eql 9 _ _ _ rfl (.string ⟨W.toArray⟩) (.string ⟨W.toArray⟩) _ rfl rfl (fun _ => rfl) HEW.out ?_; go_big_quiet_on; simp only [Act.put, List.setIfInBounds_toArray, List.set_cons_zero, List.set_cons_succ])
              | (go_big_quiet_want; refine quiet_bin .eql 9 _ _ _ rfl (.string ⟨A.toArray⟩) (.string ⟨A.toArray⟩) _ rfl rfl (fun _ => rfl) HEA.out ?_; go_big_quiet_on; simp only [Act.put, List.setIfInBounds_toArray, List.set_cons_zero, List.set_cons_succ])
              | go_big_quiet_step ((intro hs'; first
                  | (go_at_call_of 16 (Value.agg RV); exact (HTR.out _).mono fun e w' h => ⟨h.1, hs'.trans (h.2.mono hs'.size)⟩)
                  | (go_at_call_of 16 (Value.agg AV); exact (HTD.out _).mono fun e w' h => ⟨h.1, hs'.trans (h.2.mono hs'.size)⟩)
                  | (go_at_call 19; exact (HTF.out _).mono fun e w' h => ⟨h.1, hs'.trans (h.2.mono hs'.size)⟩)
                  | (go_at_call 17; exact (HWD.out _).mono fun e w' h => ⟨h.1, hs'.trans (h.2.mono hs'.size)⟩)
                  | (go_at_call 18; exact (HWR.out _).mono fun e w' h => ⟨h.1, hs'.trans (h.2.mono hs'.size)⟩)
                  | rfl)))
            refine wpQuiet_nil ?_
            intro w10 hs10
            have HB10 := Lib.hid (HB9.out.trans (hs10.mono HB9.out.size))
            clear hs10
            go_wp2_with fail
            go_ret
            exact ⟨rfl, HB10.out⟩
          | none =>
            rw [show DrA none = .tuple #[.agg (autV (noA)), .int .i64 4] from rfl] at HDR
            rw [show RdA none = .tuple #[.agg (autV (noA)), .bool false] from rfl] at HRF
            have HRO := Lib.hid noA_ok
            have HSR := Lib.hid (sizeAV (a := noA) HRO.out)
            have HEQ := Lib.hid (show ∀ w, (binOp .eql 26 (.agg (autV (noA))) (.agg (autV (noA)))).run Tryd.prog w = .ok (.bool true) w from fun w => by
              have h := eql_aut (noA) (noA) HRO.out HRO.out w
              rw [decide_eq_true (rfl : noA = noA)] at h
              exact h)
            have HVA := Lib.hid (autV_all (noA))
            obtain ⟨RV, hRV⟩ : ∃ V, autV (noA) = V := ⟨_, rfl⟩
            have HZL := Lib.hid (show (autV noA).size = RV.size from (autV_size noA_ok).trans (by rw [← hRV]; exact (autV_size HRO.out).symm))
            rw [hRV] at HSR HEQ HDR HRF HVA
            clear hRV
            go_wp2_with fail
            refine (HDR.out wr).mono ?_
            rintro e w7 ⟨rfl, hb7⟩
            have HP7 := Lib.hid (HPW.out.below hb7)
            have HX7 := Lib.hid (HXW.out.below hb7)
            have HB7 := Lib.hid (HBW.out.trans (hb7.mono HBW.out.size))
            clear hb7 HPW HXW HBW
            go_wp2_with (first
              | (refine wpList_alloc_of rfl 26 rfl (autL noA) HZA.out ?_)
              | (refine wpList_store_cells rfl 26 _ _ rfl rfl w7.heap.size (autV noA) RV 26 rfl rfl (heap_alloc_new w7 _) HSR.out HZL.out HVA.out ?_))
            intro w8 hc8 hb8
            have hb88 : Below w7.heap.size w7 w8 := But.toBelow ((Below.refl _ w7).alloc (Nat.le_refl _) _) hb8.out (Nat.le_refl _) (by rw [World.size_alloc]; exact Nat.le_succ _)
            have H18 := Lib.hid hc8.out
            have HP8 := Lib.hid (HP7.out.below hb88)
            have HX8 := Lib.hid (HX7.out.below hb88)
            have HB8 := Lib.hid (HB7.out.trans (hb88.mono HB7.out.size))
            obtain ⟨g1, hg1⟩ : ∃ z, z = w7.heap.size := ⟨_, rfl⟩
            rw [← hg1] at H18 ⊢
            clear hc8 hb8 hb88 hg1 HP7 HX7 HB7
            go_wp2_with fail
            refine (HRF.out w8).mono ?_
            rintro e w8b ⟨rfl, hb⟩
            have H18b := Lib.hid (H18.out.below hb)
            have HP8b := Lib.hid (HP8.out.below hb)
            have HX8b := Lib.hid (HX8.out.below hb)
            have HB8b := Lib.hid (HB8.out.trans (hb.mono HB8.out.size))
            clear hb H18 HP8 HX8 HB8
            go_wp2_with (first
              | (refine wpList_alloc_of rfl 26 rfl (autL noA) HZA.out ?_)
              | (refine wpList_store_cells rfl 26 _ _ rfl rfl w8b.heap.size (autV noA) RV 26 rfl rfl (heap_alloc_new w8b _) HSR.out HZL.out HVA.out ?_))
            intro w9 hc9 hb9
            have hb99 : Below w8b.heap.size w8b w9 := But.toBelow ((Below.refl _ w8b).alloc (Nat.le_refl _) _) hb9.out (Nat.le_refl _) (by rw [World.size_alloc]; exact Nat.le_succ _)
            have H29 := Lib.hid hc9.out
            have H19 := Lib.hid (H18b.out.below hb99)
            have HP9 := Lib.hid (HP8b.out.below hb99)
            have HX9 := Lib.hid (HX8b.out.below hb99)
            have HB9 := Lib.hid (HB8b.out.trans (hb99.mono HB8b.out.size))
            obtain ⟨g2, hg2⟩ : ∃ z, z = w8b.heap.size := ⟨_, rfl⟩
            rw [← hg2] at H29 ⊢
            clear hc9 hb9 hb99 hg2 H18b HP8b HX8b HB8b HVA HZL
            have HL1 := Lib.hid (fun (w' : World) (q : Below w9.heap.size w9 w') => H19.out.below q)
            have HL2 := Lib.hid (fun (w' : World) (q : Below w9.heap.size w9 w') => H29.out.below q)
            have HLP := Lib.hid (fun (w' : World) (q : Below w9.heap.size w9 w') => HP9.out.below q)
            have HLX := Lib.hid (fun (w' : World) (q : Below w9.heap.size w9 w') => HX9.out.below q)
            have hcx := aut_cells HA.out.hash HX9.out
            have hgl := HX9.out.lt
            have HX0 := Lib.hid (fun (w' : World) (q : Below w9.heap.size w9 w') => (q.cell (p := ⟨gx, 0, none⟩) hgl).trans hcx.1)
            have HX1 := Lib.hid (fun (w' : World) (q : Below w9.heap.size w9 w') => (q.cell (p := ⟨gx, 1, none⟩) hgl).trans hcx.2.1)
            obtain ⟨AV, hAV⟩ : ∃ V, autV a = V := ⟨_, rfl⟩
            rw [hAV] at HTD HTF HLX HSX
            clear hcx hgl hAV
            have HNOT := Lib.hid (show ∀ w, (Op.unary .not (.bool false)).run Tryd.prog w = .ok (.bool true) w from fun w => by kernel_rfl)
            go_upto_region 22 with (fail)
            refine wp_region_class (fun w' => Below w9.heap.size w9 w') (by kernel_rfl) (by kernel_rfl) (Below.refl _ _).drew ?_
            repeat (first
              | go_big_quiet_skip
              | (go_big_quiet_want; refine quiet_load_cells 26 _ rfl g1 RV 26 _ rfl HL1.out Tryd.underlying26 rfl HSR.out ?_; go_big_quiet_on; simp only [Act.put, List.setIfInBounds_toArray, List.set_cons_zero, List.set_cons_succ])
              | (go_big_quiet_want; refine quiet_load_cells 26 _ rfl g2 RV 26 _ rfl HL2.out Tryd.underlying26 rfl HSR.out ?_; go_big_quiet_on; simp only [Act.put, List.setIfInBounds_toArray, List.set_cons_zero, List.set_cons_succ])
              | (go_big_quiet_want; refine quiet_load_cells 26 _ rfl gx AV 26 _ rfl HLX.out Tryd.underlying26 rfl HSX.out ?_; go_big_quiet_on; simp only [Act.put, List.setIfInBounds_toArray, List.set_cons_zero, List.set_cons_succ])
              | (go_big_quiet_want; refine quiet_load_cell 3 _ rfl ⟨gx, 0, none⟩ _ rfl HX0.out Tryd.isAgg3 ?_; go_big_quiet_on; simp only [Act.put, List.setIfInBounds_toArray, List.set_cons_zero, List.set_cons_succ])
              | (go_big_quiet_want; refine quiet_load_cell 3 _ rfl ⟨gx, 1, none⟩ _ rfl HX1.out Tryd.isAgg3 ?_; go_big_quiet_on; simp only [Act.put, List.setIfInBounds_toArray, List.set_cons_zero, List.set_cons_succ])
              | (go_big_quiet_want; refine quiet_load_nums 22 _ rfl gp .u8 p 22 _ rfl HLP.out Tryd.underlying22 rfl HSP.out ?_; go_big_quiet_on; simp only [Act.put, List.setIfInBounds_toArray, List.set_cons_zero, List.set_cons_succ])
              | (go_big_quiet_want; refine quiet_bin .eql 26 _ _ _ rfl (.agg RV) (.agg RV) _ rfl rfl (guard_aut _ _ _ _) HEQ.out ?_; go_big_quiet_on; simp only [Act.put, List.setIfInBounds_toArray, List.set_cons_zero, List.set_cons_succ])
              | (go_big_quiet_want; refine quiet_un .not 4 _ rfl (.bool false) _ rfl HNOT.out ?_; go_big_quiet_on; simp only [Act.put, List.setIfInBounds_toArray, List.set_cons_zero, List.set_cons_succ])
              | (go_big_quiet_want; refine quiet_bin .eql 9 _ _ _ rfl (.string ⟨s.toArray⟩) (.string ⟨s.toArray⟩) _ rfl rfl (fun _ => rfl) HES.out ?_; go_big_quiet_on; simp only [Act.put, List.setIfInBounds_toArray, List.set_cons_zero, List.set_cons_succ])
              | (go_big_quiet_want; refine quiet_bin .eql 9 _ _ _ rfl (.string ⟨W.toArray⟩) (.string ⟨W.toArray⟩) _ rfl rfl (fun _ => rfl) HEW.out ?_; go_big_quiet_on; simp only [Act.put, List.setIfInBounds_toArray, List.set_cons_zero, List.set_cons_succ])
              | (go_big_quiet_want; refine quiet_bin .eql 9 _ _ _ rfl (.string ⟨A.toArray⟩) (.string ⟨A.toArray⟩) _ rfl rfl (fun _ => rfl) HEA.out ?_; go_big_quiet_on; simp only [Act.put, List.setIfInBounds_toArray, List.set_cons_zero, List.set_cons_succ])
              | go_big_quiet_step ((intro hs'; first
                  | (go_at_call_of 16 (Value.agg AV); exact (HTD.out _).mono fun e w' h => ⟨h.1, hs'.trans (h.2.mono hs'.size)⟩)
                  | (go_at_call 19; exact (HTF.out _).mono fun e w' h => ⟨h.1, hs'.trans (h.2.mono hs'.size)⟩)
                  | (go_at_call 17; exact (HWD.out _).mono fun e w' h => ⟨h.1, hs'.trans (h.2.mono hs'.size)⟩)
                  | (go_at_call 18; exact (HWR.out _).mono fun e w' h => ⟨h.1, hs'.trans (h.2.mono hs'.size)⟩)
                  | rfl)))
            refine wpQuiet_nil ?_
            intro w10 hs10
            have HB10 := Lib.hid (HB9.out.trans (hs10.mono HB9.out.size))
            clear hs10
            go_wp2_with fail
            go_ret
            exact ⟨rfl, HB10.out⟩
end Go.Proofs.YtpfhlhcnmeodbaaDoor.chainLinks
namespace Go.Proofs.YtpfhlhcnmeodbaaDoor.chainLinks
open Go.ChangeShapes Go.WideShapes Go.ChangeAt Go.RowKit
open Go.ChangeMaps (open_string shut_string)
set_option linter.unusedVariables false
theorem laid_met (os : Os) : laidMet Tryd.prog Rows.chainLinksRow.laid ((laidWorld os).forCall (fun _ _ => 0) ⟨#[], #[.agg (nums .u8 zeroI).toArray, .int .i64 0, .slice none 0 0, .agg (autV noA), .string ByteArray.empty], []⟩).memory :=
  laidMet_of_run' 8 (by kernel_rfl) (by kernel_rfl)
theorem reads (os : Os) {H : Type} (enc : TypeId × Value → H) : ∃ x, DataW.whole enc Tryd.prog ((laidWorld os).forCall (fun _ _ => 0) ⟨#[], #[.agg (nums .u8 zeroI).toArray, .int .i64 0, .slice none 0 0, .agg (autV noA), .string ByteArray.empty], []⟩).memory Tryd.f3.params.toList Rows.chainLinksSpec.vars false (#[.agg (nums .u8 zeroI).toArray, .int .i64 0, .slice none 0 0, .agg (autV noA), .string ByteArray.empty] : Array Value).toList 8 = some x :=
  ⟨([.agg [.lit (.int .u8 0), .lit (.int .u8 0), .lit (.int .u8 0), .lit (.int .u8 0), .lit (.int .u8 0), .lit (.int .u8 0), .lit (.int .u8 0), .lit (.int .u8 0), .lit (.int .u8 0), .lit (.int .u8 0), .lit (.int .u8 0), .lit (.int .u8 0), .lit (.int .u8 0), .lit (.int .u8 0), .lit (.int .u8 0), .lit (.int .u8 0), .lit (.int .u8 0), .lit (.int .u8 0), .lit (.int .u8 0), .lit (.int .u8 0), .lit (.int .u8 0), .lit (.int .u8 0), .lit (.int .u8 0), .lit (.int .u8 0), .lit (.int .u8 0), .lit (.int .u8 0), .lit (.int .u8 0), .lit (.int .u8 0), .lit (.int .u8 0), .lit (.int .u8 0), .lit (.int .u8 0), .lit (.int .u8 0)], .lit (.int .i64 0), .nil, .agg [.lit (.int .i64 0), .lit (.int .i64 0), .agg [.lit (.int .u8 0), .lit (.int .u8 0), .lit (.int .u8 0), .lit (.int .u8 0), .lit (.int .u8 0), .lit (.int .u8 0), .lit (.int .u8 0), .lit (.int .u8 0), .lit (.int .u8 0), .lit (.int .u8 0), .lit (.int .u8 0), .lit (.int .u8 0), .lit (.int .u8 0), .lit (.int .u8 0), .lit (.int .u8 0), .lit (.int .u8 0), .lit (.int .u8 0), .lit (.int .u8 0), .lit (.int .u8 0), .lit (.int .u8 0), .lit (.int .u8 0), .lit (.int .u8 0), .lit (.int .u8 0), .lit (.int .u8 0), .lit (.int .u8 0), .lit (.int .u8 0), .lit (.int .u8 0), .lit (.int .u8 0), .lit (.int .u8 0), .lit (.int .u8 0), .lit (.int .u8 0), .lit (.int .u8 0)], .lit (.string [])], .lit (.string [])], [], []), by kernel_rfl⟩
set_option maxRecDepth 100000 in
theorem lifted (os : Os) (started : os.Started) (H : Type) (enc : TypeId × Value → H) (F : Stop.Interp) :
    ReturnsInHanded {} Tryd.checked os 3 .any ((OpenSpec.ofChange Rows.chainLinksSpec).preRow enc Tryd.prog Tryd.f3 Rows.chainLinksRow.domain false Rows.chainLinksRow.laid) (((OpenSpec.ofChange Rows.chainLinksSpec).at F).post enc Tryd.prog Tryd.f3 false true false false) := by
  obtain ⟨x, hx⟩ := reads os enc
  refine returnsInHanded_of_row (C := Tryd.checked) (s := OpenSpec.ofChange Rows.chainLinksSpec) law_own started (by kernel_rfl) Tryd.func3
    (witness_row_at (enc := enc) (C := Tryd.checked) false (laidWorld os) #[.agg (nums .u8 zeroI).toArray, .int .i64 0, .slice none 0 0, .agg (autV noA), .string ByteArray.empty] rfl (by kernel_rfl) (by kernel_rfl) (by kernel_rfl)
      (OpenSpec.preRow_of_cond 8 hx rfl (fun k hk => by cases hk) (by kernel_rfl) (laid_met os))) ?_
  intro W base args ds gs before hval0 hW hcnd _ hsz0 hL _ _
  have hk : KAt W := k_laid hL
  have hsz : (DataW.weightsEach Tryd.prog (Tryd.f3.params.toList ++ (OpenSpec.ofChange Rows.chainLinksSpec).bare.plain.varTypes Tryd.prog) (ds ++ gs)).all (· ≤ reachBytes) = true := hsz0
  have hval : ∀ (j : Nat) t v, Tryd.f3.params[j]? = some t → args[j]? = some v → Value.okWide Tryd.prog W .any base t v := hval0
  have hW' := hW
  obtain ⟨p, q, hA0, hV, rfl, hfz, hnd⟩ := hW
  have hA : DataW.TrodAll enc Tryd.prog W 0 (fun _ => true) true Tryd.f3.params.toList args.toList ds p := hA0
  rw [Tryd.params3] at hA hval hsz
  obtain ⟨v0, vs0, d0, ds0, p0, q0, hargs, rfl, rfl, h0, r0⟩ := trodAll_cons hA
  obtain ⟨v1, vs1, d1, ds1, p1, q1, rfl, rfl, rfl, h1, r1⟩ := trodAll_cons r0
  obtain ⟨v2, vs2, d2, ds2, p2, q2, rfl, rfl, rfl, h2, r2⟩ := trodAll_cons r1
  obtain ⟨v3, vs3, d3, ds3, p3, q3, rfl, rfl, rfl, h3, r3⟩ := trodAll_cons r2
  obtain ⟨v4, vs4, d4, ds4, p4, q4, rfl, rfl, rfl, h4, r4⟩ := trodAll_cons r3
  obtain ⟨rfl, rfl, rfl⟩ := trodAll_nil r4
  obtain rfl : args = #[v0, v1, v2, v3, v4] := by cases args; simp_all
  obtain ⟨rfl, rfl⟩ := trodVars_none hV
  have k0 := h0
  have lt0 : ∀ x ∈ p0, x.block < W.heap.size := by obtain ⟨m, hm⟩ := k0; exact DataW.trod_lt m _ _ _ hm
  have z0 : ∀ n ∈ DataW.weights Tryd.prog 22 d0, n ≤ 140737488351232 := fun n hn => of_decide_eq_true (List.all_eq_true.1 hsz n (DataW.weights_mem_each (j := 0) (t := 22) rfl rfl n hn))
  obtain ⟨l0, rfl, n0⟩ := open_name Tryd.underlying22 Tryd.underlying5 (by kernel_rfl) (by kernel_rfl) (hval 0 22 v0 rfl rfl) h0
  obtain ⟨a1, rfl, rfl, rfl, w1⟩ := open_int Tryd.underlying3 (hval 1 3 v1 rfl rfl) h1
  have k2 := h2
  have lt2 : ∀ x ∈ p2, x.block < W.heap.size := by obtain ⟨m, hm⟩ := k2; exact DataW.trod_lt m _ _ _ hm
  have z2 : ∀ n ∈ DataW.weights Tryd.prog 23 d2, n ≤ 140737488351232 := fun n hn => of_decide_eq_true (List.all_eq_true.1 hsz n (DataW.weights_mem_each (j := 2) (t := 23) rfl rfl n hn))
  obtain ⟨ao2, l2, c2, rfl, s2, n2, t2⟩ := open_ents (hval 2 23 v2 rfl rfl) h2 z2
  have k3 := h3
  have lt3 : ∀ x ∈ p3, x.block < W.heap.size := by obtain ⟨m, hm⟩ := k3; exact DataW.trod_lt m _ _ _ hm
  have z3 : ∀ n ∈ DataW.weights Tryd.prog 26 d3, n ≤ 140737488351232 := fun n hn => of_decide_eq_true (List.all_eq_true.1 hsz n (DataW.weights_mem_each (j := 3) (t := 26) rfl rfl n hn))
  obtain ⟨x3, rfl, n3⟩ := open_aut (hval 3 26 v3 rfl rfl) h3 z3
  obtain ⟨a4, rfl, rfl, rfl, w4⟩ := open_string Tryd.underlying9 (hval 4 9 v4 rfl rfl) h4
  have z4 : a4.data.toList.length ≤ 140737488351232 := sized_string hsz (j := 4) (t := 9) rfl rfl
  clear hA0 hval0
  refine (walk W hk l0 n0 a1 w1 ao2 l2 c2 s2 n2 t2 x3 n3 a4.data.toList z4).mono fun e W' ⟨he, bel⟩ => ?_
  subst he
  exact ⟨_, rfl, _, _, _, [], _, [], hW', trodAll_mk1 (shut_bool Tryd.underlying4 _), (trodAll_cons_mk (Below.trod law_laidOut (by kernel_rfl) (of_decide_eq_true (by kernel_rfl)) k0 bel lt0) (trodAll_cons_mk (shut_int Tryd.underlying3 w1) (trodAll_cons_mk (Below.trod law_laidOut (by kernel_rfl) (of_decide_eq_true (by kernel_rfl)) k2 bel lt2) (trodAll_cons_mk (Below.trod law_laidOut (by kernel_rfl) (of_decide_eq_true (by kernel_rfl)) k3 bel lt3) (trodAll_cons_mk (shut_string Tryd.underlying9 w4) trodAll_mk0))))), rfl, bel.frame _, fun h => by cases h⟩
theorem said : Rows.ChainLinksSaid :=
  OpenClaim.holds_of_cond 3 Tryd.f3 rfl rfl rfl rfl rfl rfl rfl ⟨rfl, rfl, rfl, rfl, rfl⟩ rfl rfl rfl rfl rfl (by kernel_rfl) Tryd.func3 (by kernel_rfl)
    (of_decide_eq_true (by kernel_rfl)) (by unfold Func.isWrapper; first | (rw [if_pos (by decide +kernel)]; kernel_rfl) | (rw [if_neg (by decide +kernel)]; exact ⟨rfl, rfl⟩))
    (fun os started H enc _ F => by rw [OpenClaim.pre_eq_preRow]; exact lifted os started H enc F)
theorem plain (f : FuncId) (fn : Func) (hf : Tryd.pinned.checked.prog.funcNamed "tribunal/tribunallaw16.ChainLinks" = some f) (hfn : Tryd.pinned.checked.prog.funcs[f]? = some fn) :
    false = Tryd.pinned.checked.prog.looks [] ∧ ∀ (j : Nat) t, fn.params[j]? = some t → Tryd.pinned.checked.prog.wantsStandIn t = false := by
  obtain rfl : f = 3 := Option.some.inj ((show Tryd.prog.funcNamed "tribunal/tribunallaw16.ChainLinks" = some 3 by kernel_rfl).symm.trans hf) |>.symm
  obtain rfl : fn = Tryd.f3 := (Option.some.inj (Tryd.func3.symm.trans hfn)).symm
  refine ⟨by kernel_rfl, fun j t ht => ?_⟩
  have hall : Tryd.f3.params.toList.all (fun t => !Tryd.prog.wantsStandIn t) = true := by kernel_rfl
  have hm : t ∈ Tryd.f3.params.toList := Array.mem_toList_iff.2 (Array.mem_of_getElem? ht)
  have h0 := List.all_eq_true.1 hall t hm
  have h1 : Tryd.prog.wantsStandIn t = false := by simpa using h0
  exact h1
theorem proved : Rows.ChainLinksCardSaid :=
  Claim7.holds_tied_plain_at .later [] _ _ _ _ said (fun _ h => by cases h) (by kernel_rfl) (fun _ h => by cases h) chainLinks_row_tie rfl ⟨rfl, rfl⟩ (by kernel_rfl) rfl plain (by kernel_rfl)
#print axioms proved
end Go.Proofs.YtpfhlhcnmeodbaaDoor.chainLinks
