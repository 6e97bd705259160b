/-
  The law ChainOne: for every input it answers true, and its arguments read as they did. Condition: the round constants' table lies as the program's text lays it (the card ties it).
-/
import Derived.Lib.BitFns
import Derived.Test.YtpfhlhcnmeodbaaDoorJ01
import Derived.Test.YtpfhlhcnmeodbaaDoorJ02
import Derived.Test.YtpfhlhcnmeodbaaDoorJ03
import Derived.Test.YtpfhlhcnmeodbaaDoorJ04
import Derived.Test.YtpfhlhcnmeodbaaDoorJ05
import Derived.Test.YtpfhlhcnmeodbaaDoorJ06
import Derived.Test.YtpfhlhcnmeodbaaDoorJ07
import Derived.Test.YtpfhlhcnmeodbaaDoorJ08
import Derived.Test.YtpfhlhcnmeodbaaDoorJ09
import Derived.Test.YtpfhlhcnmeodbaaDoorJ10
namespace Go.Proofs.YtpfhlhcnmeodbaaDoor
theorem numB_inj {a b : Nat} (h : numB a = numB b) : a = b := by
  have h2 : dig a = dig b := by simp only [numB, List.cons.injEq] at h; exact h.2
  rw [← val_dig a, ← val_dig b, h2]
end Go.Proofs.YtpfhlhcnmeodbaaDoor
namespace Go.Proofs.YtpfhlhcnmeodbaaDoor
open Go.RowKit
theorem splitB_listB {l : List (List UInt8)} (hl : l.length ≤ 4096) (h : (listB l).length ≤ 262144) : splitB (listB l) = some l := by
  have ht : ∀ t ∈ l, t.length < 9223372036854775808 := fun t ht => by
    have h1 := listB_length l
    have h2 : t.length ≤ (textsB l).length := by
      obtain ⟨q, hq, rfl⟩ := List.getElem_of_mem ht
      have := textsB_parts l q hq
      have := textB_length l[q]
      omega
    omega
  have h1 := takeList_listB hl ht []
  rw [List.append_nil] at h1
  unfold splitB
  rw [if_neg (by omega), h1]
def readD (s : List UInt8) : Option DraftN := match splitB s with
  | some [k, key, val, r] => if r.length = 32 then (match allNum k with
    | some n => if GoodD ⟨n, key, val, byteNs r⟩ then some ⟨n, key, val, byteNs r⟩ else none
    | none => none) else none
  | _ => none
theorem readD_draftB {d : DraftN} (hk : 0 ≤ d.kind ∧ d.kind < 9223372036854775808) (h1 : d.key.length ≤ 512) (h2 : d.val.length ≤ 512) (h3 : IdOk d.ref) : readD (draftB d) = if GoodD d then some d else none := by
  have hl := draftB_le hk.2 h1 h2 h3.1
  have hs : splitB (draftB d) = some [numB d.kind.toNat, d.key, d.val, txt d.ref] := splitB_listB (by simp) (by rw [← draftB]; omega)
  have hd : (⟨((d.kind.toNat : Nat) : Int), d.key, d.val, byteNs (txt d.ref)⟩ : DraftN) = d := by rw [byteNs_txt h3.2, Int.toNat_of_nonneg hk.1]
  unfold readD
  rw [hs]
  simp only
  rw [if_pos (by rw [txt_len]; exact h3.1), allNum_numB (by omega)]
  simp only [hd]
end Go.Proofs.YtpfhlhcnmeodbaaDoor
namespace Go.Proofs.YtpfhlhcnmeodbaaDoor
open Go.RowKit
def candE : List (List UInt8) → EntN
  | [k, t] => if numI k = 1 then ⟨1, (readD t).getD noD, 0, 0, zeroI, 0, [], []⟩ else noE
  | [k, m, p] => if numI k = 3 then ⟨3, noD, 0, 0, zeroI, numI m, p, []⟩ else noE
  | [k, f, q, r, m, p, g] => if numI k = 2 ∧ r.length = 32 then ⟨2, noD, numI f, numI q, byteNs r, numI m, p, g⟩ else noE
  | _ => noE
def readE (s : List UInt8) : Option EntN := match splitB s with
  | some l => if GoodE (candE l) then some (candE l) else none
  | none => none
theorem numI_numB {n : Nat} (h : n < 9223372036854775808) : numI (numB n) = n := by rw [numI, allNum_numB h]
theorem partsE_len (e : EntN) : (partsE e).length ≤ 7 := by
  unfold partsE
  split
  · simp
  · split <;> simp
theorem candE_partsE {e : EntN} (h : GoodE e) (hf : e.Fit) : candE (partsE e) = e := by
  obtain ⟨kind, d, src, seq, prev, mask, pay, sig⟩ := e
  have hs := hf.seq
  have hp := hf.ok.prev
  have hr := hf.ok.ref
  simp only at hs hp hr
  rcases h with ⟨hk, hd, ⟨b1, b2, b3, b4⟩, hm, hy⟩ | ⟨hk, ⟨h1, h2, h3⟩, hd, h4, h5, h6, h7⟩ | ⟨hk, ⟨h1, h2, h3⟩, hd, b1, b2, b3, b4⟩
  · simp only at hk hd b1 b2 b3 b4 hm hy
    subst hk b1 b2 b3 b4 hm hy
    have h1 : readD (draftB d) = some d := by
      rw [readD_draftB ⟨by have := hd.1; omega, by have := hd.2.1; omega⟩ (by have := hd.2.2.2.1; omega) (by have := hd.2.2.2.2.1; omega) hr, if_pos hd]
    simp only [partsE, if_true, candE]
    rw [if_pos (show numI (numB 1) = 1 from numI_numB (by decide)), h1]
    rfl
  · simp only at hk h1 h2 h3 hd h4 h5 h6 h7
    subst hk hd
    simp only [partsE]
    rw [if_neg (by decide), if_pos trivial]
    simp only [candE]
    rw [if_pos ⟨show numI (numB 2) = 2 from numI_numB (by decide), by rw [txt_len]; exact hp.1⟩, numI_numB (by omega), numI_numB (by omega), numI_numB (by omega), byteNs_txt hp.2]
    simp only [EntN.mk.injEq, true_and, and_true]
    omega
  · simp only at hk h1 h2 h3 hd b1 b2 b3 b4
    subst hk hd b1 b2 b3 b4
    simp only [partsE]
    rw [if_neg (by decide), if_neg (by decide)]
    simp only [candE]
    rw [if_pos (show numI (numB 3) = 3 from numI_numB (by decide)), numI_numB (by omega)]
    simp only [EntN.mk.injEq, true_and, and_true]
    omega
theorem readE_nil : readE [] = none := by decide +kernel
theorem readE_entB {e : EntN} (hf : e.Fit) : readE (entB e) = if GoodE e then some e else none := by
  by_cases h : GoodE e
  · rw [if_pos h, entB_good h, readE, splitB_listB (Nat.le_trans (partsE_len e) (by decide)) (Nat.le_trans (partsE_le h hf) (by decide))]
    simp only
    rw [candE_partsE h hf, if_pos h]
  · rw [if_neg h, entB_bad h, readE_nil]
theorem entB_inj {a b : EntN} (fa : a.Fit) (fb : b.Fit) (ha : GoodE a) (hb : GoodE b) (h : entB a = entB b) : a = b := by
  have h1 := readE_entB fa
  have h2 := readE_entB fb
  rw [if_pos ha, h] at h1
  rw [if_pos hb, h1] at h2
  exact Option.some.inj h2
end Go.Proofs.YtpfhlhcnmeodbaaDoor
namespace Go.Proofs.YtpfhlhcnmeodbaaDoor
open Go.RowKit
def textsL : List Nat → Int → List EntN → List (List UInt8)
  | _, _, [] => []
  | p, i, e :: L => linkT p i e :: textsL (linkN p i e) (i + 1) L
theorem textsL_snoc : ∀ (L : List EntN) (p : List Nat) (i : Int) (e : EntN), textsL p i (L ++ [e]) = textsL p i L ++ [linkT (endN p i L) (i + L.length) e]
  | [], p, i, e => by simp [textsL, endN]
  | a :: L, p, i, e => by
    rw [List.cons_append, textsL, textsL_snoc L, textsL, List.cons_append, endN, List.length_cons, show i + 1 + (L.length : Int) = i + ((L.length + 1 : Nat) : Int) by omega]
theorem leadN_last : ∀ {L : List EntN} (p : List Nat) (i : Int), L ≠ [] → (leadN p i L)[L.length - 1]? = some (endN p i L)
  | [], _, _, h => absurd rfl h
  | [e], p, i, _ => rfl
  | a :: b :: L, p, i, _ => by
    have ih := leadN_last (L := b :: L) (linkN p i a) (i + 1) (by simp)
    rw [leadN, show (a :: b :: L).length - 1 = (b :: L).length - 1 + 1 by simp, List.getElem?_cons_succ, ih]; rfl
def ClashN (T : List (List UInt8)) : Prop := ∃ x ∈ T, ∃ y ∈ T, x ≠ y ∧ shaN x = shaN y
theorem linkT_inj {p q : List Nat} (hp : IdOk p) (hq : IdOk q) {i k : Int} (hi : 0 ≤ i ∧ i ≤ 9223372036854775807) (hk : 0 ≤ k ∧ k ≤ 9223372036854775807) {a b : EntN} (fa : a.Fit) (fb : b.Fit) (ga : GoodE a) (gb : GoodE b) (h : linkT p i a = linkT q k b) : p = q ∧ i = k ∧ a = b := by
  have t1 := txt_len p
  have t2 := txt_len q
  have p1 := hp.1
  have q1 := hq.1
  have n1 := numB_len9 (n := i.toNat) (by omega)
  have n2 := numB_len9 (n := k.toNat) (by omega)
  have e1 := entB_le fa
  have e2 := entB_le fb
  have hl := listB_inj (by simp) (by simp) (fun t ht => by simp only [List.mem_cons, List.not_mem_nil, or_false] at ht; rcases ht with rfl | rfl | rfl | rfl <;> first | decide | omega) (fun t ht => by simp only [List.mem_cons, List.not_mem_nil, or_false] at ht; rcases ht with rfl | rfl | rfl | rfl <;> first | decide | omega) h
  simp only [List.cons.injEq, and_true, true_and] at hl
  obtain ⟨h1, h2, h3⟩ := hl
  have h4 := numB_inj h2
  exact ⟨txt_inj hp.2 hq.2 h1, by omega, entB_inj fa fb ga gb h3⟩
theorem chain_one : ∀ (A B : List EntN) (p q : List Nat) (i k : Int), A.length = B.length → A ≠ [] → IdOk p → IdOk q → 0 ≤ i → i + A.length ≤ 9223372036854775807 → 0 ≤ k → k + B.length ≤ 9223372036854775807 →
    (∀ x ∈ A, x.Fit ∧ GoodE x) → (∀ x ∈ B, x.Fit ∧ GoodE x) → endN p i A = endN q k B → ¬ ClashN (textsL p i A ++ textsL q k B) → p = q ∧ i = k ∧ A = B
  | [], _, _, _, _, _, _, h, _, _, _, _, _, _, _, _, _, _ => absurd rfl h
  | a :: A, [], _, _, _, _, hl, _, _, _, _, _, _, _, _, _, _, _ => by simp at hl
  | a :: A, b :: B, p, q, i, k, hl, _, hp, hq, hi, hi2, hk, hk2, hA, hB, he, hc => by
    have hl2 : A.length = B.length := by simpa using hl
    simp only [List.length_cons] at hi2 hk2
    have key : linkN p i a = linkN q k b → p = q ∧ i = k ∧ a = b := fun hab => by
      have ht : linkT p i a = linkT q k b := by
        refine Classical.byContradiction fun hne => hc ⟨linkT p i a, ?_, linkT q k b, ?_, hne, hab⟩
        · rw [textsL]; simp
        · rw [textsL, textsL]; simp
      exact linkT_inj hp hq ⟨hi, by omega⟩ ⟨hk, by omega⟩ (hA a (by simp)).1 (hB b (by simp)).1 (hA a (by simp)).2 (hB b (by simp)).2 ht
    by_cases hA0 : A = []
    · subst hA0
      have hB0 : B = [] := List.length_eq_zero_iff.1 hl2.symm
      subst hB0
      obtain ⟨h1, h2, h3⟩ := key he
      exact ⟨h1, h2, by rw [h3]⟩
    · have ih := chain_one A B (linkN p i a) (linkN q k b) (i + 1) (k + 1) hl2 hA0 (linkN_ok _ _ _) (linkN_ok _ _ _) (by omega) (by omega) (by omega) (by omega) (fun x hx => hA x (by simp [hx])) (fun x hx => hB x (by simp [hx])) he (fun ⟨x, hx, y, hy, h1, h2⟩ => hc ⟨x, by
        rw [textsL, textsL]
        rcases List.mem_append.1 hx with hx | hx
        · simp [hx]
        · simp [hx], y, by
        rw [textsL, textsL]
        rcases List.mem_append.1 hy with hy | hy
        · simp [hy]
        · simp [hy], h1, h2⟩)
      obtain ⟨h1, h2, h3⟩ := key ih.1
      exact ⟨h1, h2, by rw [h3, ih.2.2]⟩
end Go.Proofs.YtpfhlhcnmeodbaaDoor
namespace Go.Proofs.YtpfhlhcnmeodbaaDoor
open Go.RowKit Go.BigFrame
theorem neq_ent (a b : EntN) (ha : a.Ok) (hb : b.Ok) (w : World) : (binOp .neq 35 (.agg (entV a)) (.agg (entV b))).run Tryd.prog w = .ok (.bool (!decide (a = b))) w := by
  rw [run_neq_struct, equal_ent a b ha hb]
  rfl
section
variable (a : EntN) (ha : a.Ok)
include ha
omit ha in
end
end Go.Proofs.YtpfhlhcnmeodbaaDoor
namespace Go.Proofs.YtpfhlhcnmeodbaaDoor
open Go.RowKit Go.BigFrame
theorem ents_all {A B : List EntN} {n : Nat} (hA : A.length = n) (hB : B.length = n) (h : ∀ j, j < n → A[j]? = B[j]?) : A = B := by
  refine List.ext_getElem? fun j => ?_
  by_cases hj : j < n
  · exact h j hj
  · rw [List.getElem?_eq_none (by omega), List.getElem?_eq_none (by omega)]
end Go.Proofs.YtpfhlhcnmeodbaaDoor
namespace Go.Proofs.YtpfhlhcnmeodbaaDoor
open Go.RowKit Go.BigFrame
theorem OwnS.cap16 {B : Nat} {ao : Option Addr} {n c : Nat} {L : List (List UInt8)} {w : World} (h : OwnS B (.slice ao n c) L w) : L.length ≤ c := by
  rcases h.2 with ⟨h1, h2⟩ | ⟨g, cap, cur, h1, h2, h3, h4, _⟩
  · cases h1
    omega
  · cases h1
    exact h4
theorem slice_strs_hi (ap : Option Addr) (n c j : Nat) (hj : j ≤ n) (hc : n ≤ c) (w : World) : (Instr.sliceAt 78 (.slice ap n c) none (some (.int .i64 (j : Int))) none).run Tryd.prog w = .ok (.slice ap j c) w := by
  go_simp
  intro h
  omega
theorem wpList_slice_hi16 {P : Program} {ops : Array Oper} {rest : List Oper} {o : Oper} {a : Act} {w : World} {Q : Exit → Act → World → Prop} (hgd : o.guard = none) (t : TypeId) (x y : Operand) (ho : o.op = .slice t x none (some y) none) (vx vy r : Value) (hx : a.eval x = vx) (hy : a.eval y = vy)
    (hr : ∀ w, (Instr.sliceAt t vx none (some vy) none).run P w = .ok r w) (h : wpList P ops Q rest (a.put o.dst r) w) : wpList P ops Q (o :: rest) a w := by
  refine wpList_plain hgd fun K hK => ?_
  unfold Oper.wp execOp
  simp only [ho, Option.map_some, Option.map_none, hx, hy, Sem.run_bind, hr w, Result.andThen_ok, Sem.run_pure]
  exact hK _ _ h
theorem neq_text16 (a b : List UInt8) (w : World) : (binOp .neq 9 (.string ⟨a.toArray⟩) (.string ⟨b.toArray⟩)).run Tryd.prog w = .ok (.bool (!(a == b))) w := by
  go_simp
theorem eql_id16 (a b : List Nat) (ha : IdOk a) (hb : IdOk b) (w : World) : (binOp .eql 24 (.agg (nums .u8 a).toArray) (.agg (nums .u8 b).toArray)).run Tryd.prog w = .ok (.bool (a == b)) w := by
  rw [run_eql_struct, equal_idI a b ha.1 hb.1 ha.2 hb.2]
  simp
theorem textsL_len : ∀ (L : List EntN) (p : List Nat) (i : Int), (textsL p i L).length = L.length
  | [], _, _ => rfl
  | e :: L, p, i => by rw [textsL, List.length_cons, textsL_len L, List.length_cons]
theorem textsL_short : ∀ (L : List EntN) (p : List Nat) (i : Int), IdOk p → i + L.length ≤ 9223372036854775807 → (∀ x ∈ L, x.Fit) → ∀ t ∈ textsL p i L, t.length ≤ 9000
  | [], _, _, _, _, _, t, ht => by cases ht
  | e :: L, p, i, hp, hi, hL, t, ht => by
    simp only [List.length_cons] at hi
    rw [textsL] at ht
    rcases List.mem_cons.1 ht with rfl | ht
    · exact linkT_len hp (by omega) (hL e (by simp))
    · exact textsL_short L _ _ (linkN_ok _ _ _) (by omega) (fun x hx => hL x (by simp [hx])) t ht
def NoneN (T : List (List UInt8)) (m : Nat) : Prop := ∀ b, b < m → ∀ a, a < b → ∀ s t, T[b]? = some s → T[a]? = some t → s ≠ t → shaN s ≠ shaN t
theorem NoneN.not {T : List (List UInt8)} (h : NoneN T T.length) : ¬ ClashN T := by
  rintro ⟨x, hx, y, hy, hne, he⟩
  obtain ⟨a, ha, rfl⟩ := List.getElem_of_mem hx
  obtain ⟨b, hb, rfl⟩ := List.getElem_of_mem hy
  by_cases hab : a = b
  · subst hab; exact hne rfl
  · by_cases hlt : a < b
    · exact h b hb a hlt _ _ (List.getElem?_eq_getElem hb) (List.getElem?_eq_getElem ha) (fun e => hne e.symm) he.symm
    · exact h a ha b (by omega) _ _ (List.getElem?_eq_getElem ha) (List.getElem?_eq_getElem hb) hne he
set_option maxHeartbeats 8000000 in
set_option maxRecDepth 100000 in
theorem ref_clash16 (p : List Nat) (i : Int) (ao : Option Addr) (A : List EntN) (ca : Nat) (q : List Nat) (k : Int) (bo : Option Addr) (B : List EntN) (cb : Nat) (w : World) (hp : IdOk p) (hq : IdOk q) (i0 : -9223372036854775808 ≤ i) (hi : i + A.length ≤ 9223372036854775807) (k0 : -9223372036854775808 ≤ k) (hk : k + B.length ≤ 9223372036854775807)
    (hA : ∀ x ∈ A, x.Len ∧ x.seq < 9223372036854775808) (hB : ∀ x ∈ B, x.Len ∧ x.seq < 9223372036854775808) (hn : A.length ≤ 100000) (hm : B.length ≤ 100000) (hat : EntsAt ao A w) (hbt : EntsAt bo B w) :
    Calls Tryd.prog 24 #[.agg (nums .u8 p).toArray, .int .i64 i, .slice ao A.length ca, .agg (nums .u8 q).toArray, .int .i64 k, .slice bo B.length cb] w fun r w' => (∃ z, r = .returned (.bool z) ∧ (z = false → ¬ ClashN (textsL p i A ++ textsL q k B))) ∧ Below w.heap.size w w' := by
  have hx1 : Cells w.heap.size 24 (nums .u8 p).toArray ((w.alloc (.cells (nums .u8 p).toArray 24)).alloc (.cells (nums .u8 q).toArray 24)) := Cells.alloc (heap_alloc_new w _) _
  have hx2 : Cells (w.heap.size + 1) 24 (nums .u8 q).toArray ((w.alloc (.cells (nums .u8 p).toArray 24)).alloc (.cells (nums .u8 q).toArray 24)) := by
    have h := heap_alloc_new (w.alloc (.cells (nums .u8 p).toArray 24)) (.cells (nums .u8 q).toArray 24)
    rw [World.size_alloc] at h
    exact h
  have HX1 := Lib.hid hx1
  have HX2 := Lib.hid hx2
  have HB := Lib.hid (show Below w.heap.size w ((w.alloc (.cells (nums .u8 p).toArray 24)).alloc (.cells (nums .u8 q).toArray 24)) from ((Below.refl _ _).alloc (Nat.le_refl _) _).alloc (by rw [World.size_alloc]; exact Nat.le_succ _) _)
  have HPA := Lib.hid hat
  have HPB := Lib.hid hbt
  have HLA := Lib.hid hA
  have HLB := Lib.hid hB
  have HPK := Lib.hid hp
  have HQK := Lib.hid hq
  have HSH := Lib.hid (show ∀ t ∈ textsL p i A ++ textsL q k B, t.length ≤ 9000 from fun t ht => by
    rcases List.mem_append.1 ht with ht | ht
    · exact textsL_short A p i hp hi (fun x hx => ⟨(hA x hx).1.ok, (hA x hx).2⟩) t ht
    · exact textsL_short B q k hq hk (fun x hx => ⟨(hB x hx).1.ok, (hB x hx).2⟩) t ht)
  obtain ⟨n, hnn⟩ : ∃ n, A.length = n := ⟨_, rfl⟩
  obtain ⟨m, hmm⟩ : ∃ m, B.length = m := ⟨_, rfl⟩
  have HNA := Shut.mk hnn
  have HNB := Shut.mk hmm
  have HTN := Shut.mk (show (textsL p i A ++ textsL q k B).length = n + m by rw [List.length_append, textsL_len, textsL_len, hnn, hmm])
  rw [hnn] at hn hi ⊢
  rw [hmm] at hm hk ⊢
  have HZE := Lib.hid (show (Tryd.prog.info? 35).bind (·.zero) = some (.agg (entL noE).toArray) by kernel_rfl)
  clear hat hbt hA hB hnn hmm hp hq hx1 hx2
  go_enter Tryd.func24, Tryd.ntmps24
  go_wp2_with fail
  obtain ⟨w1, hw1⟩ : ∃ x, x = (w.alloc (.cells (nums .u8 p).toArray 24)).alloc (.cells (nums .u8 q).toArray 24) := ⟨_, rfl⟩
  rw [← hw1] at HX1 HX2 HB ⊢
  have HS1 := Lib.hid (show w.heap.size + 2 ≤ w1.heap.size by rw [hw1, World.size_alloc, World.size_alloc]; omega)
  clear hw1
  go_loopw [13, 22] (fun v x wr => ∃ j : Nat, j ≤ n ∧ x = .int .i64 j ∧ OwnS (w.heap.size + 2) v (textsL p i (A.take j)) wr ∧ Cells w.heap.size 24 (nums .u8 (endN p i (A.take j))).toArray wr ∧ Cells (w.heap.size + 1) 24 (nums .u8 q).toArray wr ∧ Below w.heap.size w wr ∧ w1.heap.size ≤ wr.heap.size) (fun _ x _ => n - (intOf x).toNat)
  case atStart => exact ⟨0, Nat.zero_le _, rfl, OwnS.nil _ _, HX1.out, HX2.out, HB.out, Nat.le_refl _⟩
  case round =>
    obtain ⟨j, hj, rfl, ho, hc, hd, hb, hsz⟩ := hrel
    have HO := Lib.hid ho
    have HC := Lib.hid hc
    have HD := Lib.hid hd
    have HBW := Lib.hid hb
    have HSZ := Lib.hid hsz
    have HPW := Lib.hid (RAt.below HPA.out hb)
    clear hb ho hc hd hsz
    by_cases hkn : j < n
    · obtain ⟨y, hy⟩ : ∃ y, A[j]? = some y := ⟨_, List.getElem?_eq_getElem (by rw [HNA.out]; exact hkn)⟩
      have htk : A.take (j + 1) = A.take j ++ [y] := by
        have h1 : A[j]'(by rw [HNA.out]; exact hkn) = y := by
          rw [List.getElem?_eq_getElem (by rw [HNA.out]; exact hkn)] at hy
          exact Option.some.inj hy
        rw [List.take_succ_eq_append_getElem (by rw [HNA.out]; exact hkn), h1]
      have hlk : (A.take j).length = j := by rw [List.length_take, HNA.out]; omega
      have HTE := Shut.mk (show endN p i (A.take (j + 1)) = linkN (endN p i (A.take j)) (i + j) y by rw [htk, endN_snoc, hlk])
      have HTL := Shut.mk (show textsL p i (A.take (j + 1)) = (textsL p i (A.take j)) ++ [linkT (endN p i (A.take j)) (i + j) y] by rw [htk, textsL_snoc, hlk])
      have HY := Lib.hid (HLA.out y (List.mem_of_getElem? hy))
      obtain ⟨b, ob, rfl, hbl, hr⟩ := RAt.getM HPW.out hy
      have HR := Lib.hid hr
      have HSL := Lib.hid (sizeEL HY.out.1.ok)
      have HSV := Lib.hid (sizeEV HY.out.1.ok)
      have HEK := Lib.hid (endN_ok HPK.out (A.take j) i)
      have HML := Lib.hid (show (textsL p i (A.take j)).length ≤ 500000 by rw [textsL_len, hlk]; omega)
      obtain ⟨M, hM⟩ : ∃ M, textsL p i (A.take j) = M := ⟨_, rfl⟩
      obtain ⟨E, hE⟩ : ∃ E, endN p i (A.take j) = E := ⟨_, rfl⟩
      rw [hM] at HO HTL HML
      rw [hE] at HC HTE HTL HEK
      clear hy hbl hr hM hE htk hlk
      have HSE := Lib.hid (show (Tryd.prog.info? 24).map (·.size) = some E.length by rw [HEK.out.1]; exact Tryd.sizeI)
      have HLK := Lib.hid (fun w' => ref_link E (i + j) y HEK.out (by omega) HY.out.1 HY.out.2 w')
      have HLT := Lib.hid (fun w' => ref_linkText E (i + j) y HEK.out (by omega) HY.out.1 HY.out.2 w')
      obtain ⟨U, hU⟩ : ∃ U, linkN E (i + j) y = U := ⟨_, rfl⟩
      obtain ⟨T, hT⟩ : ∃ T, linkT E (i + j) y = T := ⟨_, rfl⟩
      have HUK := Lib.hid (show IdOk U by rw [← hU]; exact linkN_ok _ _ _)
      have HSU := Lib.hid (show (Tryd.prog.info? 24).map (·.size) = some U.length by rw [HUK.out.1]; exact Tryd.sizeI)
      rw [hU] at HTE HLK
      rw [hT] at HTL HLT
      clear hU hT
      obtain ⟨ap, cp, rfl⟩ := HO.out.form
      have HGO := Lib.hid (fun g hg => (World.ownsRow.lt HO.out g hg).2)
      go_wp2_with (first
        | (refine wpList_load_mid rfl 35 _ rfl b (ob + j * 73) rfl _ _ HR.out Tryd.underlying35 rfl HSL.out ?_)
        | (refine wpList_alloc_of rfl 35 rfl (entL noE) HZE.out ?_)
        | (refine wpList_store_cells rfl 35 _ _ rfl rfl wr.heap.size (entV noE) (entV y) 35 rfl rfl (heap_alloc_new wr _) HSV.out (by rw [entV_size HY.out.1.ok]; rfl) (entV_all y) ?_))
      intro w4 hc hb
      have hb4 : Below wr.heap.size wr w4 := But.toBelow ((Below.refl _ wr).alloc (Nat.le_refl _) _) hb.out (Nat.le_refl _) (by rw [World.size_alloc]; exact Nat.le_succ _)
      have HC4 := Lib.hid hc.out
      have HB4 := Lib.hid (HBW.out.trans (hb4.mono HBW.out.size))
      have HO4 := Lib.hid (HO.out.below hb4)
      have HP4 := Lib.hid (Cells.below HC.out hb4)
      have HD4 := Lib.hid (HD.out.below hb4)
      have HZ4 := Lib.hid (Nat.le_trans HSZ.out hb4.size)
      obtain ⟨g5, hg5⟩ : ∃ g, wr.heap.size = g := ⟨_, rfl⟩
      rw [hg5] at HC4 HGO ⊢
      clear hc hb hb4 hg5 HO HR HSL HC HD
      go_wp2_with (first
        | (refine wpList_load_nums rfl 24 _ rfl w.heap.size .u8 E 24 _ rfl HP4.out Tryd.underlying24 rfl HSE.out ?_)
        | (refine wpList_load_cells rfl 35 _ rfl g5 (entV y) 35 _ rfl HC4.out Tryd.underlying35 rfl HSV.out ?_))
      refine (HLT.out w4).mono ?_
      rintro r w5 ⟨rfl, hb⟩
      have HB5 := Lib.hid (HB4.out.trans (hb.mono HB4.out.size))
      have HO5 := Lib.hid (HO4.out.below hb)
      have HP5 := Lib.hid (Cells.below HP4.out hb)
      have HD5 := Lib.hid (HD4.out.below hb)
      have HC5 := Lib.hid (Cells.below HC4.out hb)
      have HZ5 := Lib.hid (Nat.le_trans HZ4.out hb.size)
      clear hb HB4 HO4 HP4 HZ4 HC4 HD4
      have HS := Lib.hid (strs_lit w5 [T] 9)
      go_wp2_with (refine wpList_push_strs rfl _ _ rfl (w.heap.size + 2) _ M [T] (some ⟨w5.heap.size, 0, none⟩) 1 1 rfl rfl (HO5.out.below ((Below.refl _ w5).alloc (Nat.le_refl _) _)) rfl HS.out (fun h => by cases h) (by have := HML.out; simp only [List.length_singleton]; omega) (by rw [World.size_alloc]; have := HZ5.out; have := HS1.out; omega) ?_)
      intro v6 w6 ho hb hgr
      have hb6 : Below (w.heap.size + 2) w5 w6 := ((Below.refl _ w5).alloc (by have := HZ5.out; have := HS1.out; omega) _).trans hb.out
      have HO6 := Lib.hid ho.out
      have HP6 := Lib.hid (show Cells w.heap.size 24 (nums .u8 E).toArray w6 from (hb6.block _ (by omega)).trans HP5.out)
      have HD6 := Lib.hid (show Cells (w.heap.size + 1) 24 (nums .u8 q).toArray w6 from (hb6.block _ (by omega)).trans HD5.out)
      have HB6 := Lib.hid (HB5.out.trans (hb6.mono (by omega)))
      have HZ6 := Lib.hid (Nat.le_trans HZ5.out hb6.size)
      have HC6 := Lib.hid (show Cells g5 35 (entV y) w6 from Cells.only (Cells.alloc HC5.out _) ((Only.refl _ _).grown hgr.out (fun b hb => .inl hb)) (fun e => absurd (HGO.out g5 e) (Nat.lt_irrefl _)))
      clear ho hb hgr hb6 HGO HS HO5 HB5 HP5 HZ5 HD5 HC5
      go_wp2_with (first
        | (refine wpList_load_nums rfl 24 _ rfl w.heap.size .u8 E 24 _ rfl HP6.out Tryd.underlying24 rfl HSE.out ?_)
        | (refine wpList_load_cells rfl 35 _ rfl g5 (entV y) 35 _ rfl HC6.out Tryd.underlying35 rfl HSV.out ?_))
      refine (HLK.out w6).mono ?_
      rintro r w7 ⟨rfl, hb⟩
      have HB7 := Lib.hid (HB6.out.trans (hb.mono HB6.out.size))
      have HO7 := Lib.hid (HO6.out.below hb)
      have HP7 := Lib.hid (Cells.below HP6.out hb)
      have HD7 := Lib.hid (HD6.out.below hb)
      have HZ7 := Lib.hid (Nat.le_trans HZ6.out hb.size)
      clear hb HB6 HO6 HP6 HZ6 HC6 HD6
      go_wp2_with (first
        | (refine wpList_store_nums rfl 24 _ _ rfl rfl w.heap.size .u8 E U 24 rfl rfl HP7.out HSU.out (by rw [HEK.out.1, HUK.out.1]) ?_))
      intro w8 hc8 hb8
      have HP8 := Lib.hid hc8.out
      have HB8 := Lib.hid (show Below w.heap.size w w8 from But.toBelow HB7.out hb8.out (by omega) HB7.out.size)
      have HO8 := Lib.hid (HO7.out.but hb8.out (by omega))
      have HD8 := Lib.hid (show Cells (w.heap.size + 1) 24 (nums .u8 q).toArray w8 from HD7.out.but hb8.out (by omega))
      have HZ8 := Lib.hid (Nat.le_trans HZ7.out hb8.out.size)
      clear hc8 hb8 HP7 HB7 HO7 HZ7 HD7
      go_wp2_with fail
      exact ⟨⟨j + 1, by omega, by go_num, by rw [HTL.out]; exact HO8.out, by rw [HTE.out]; exact HP8.out, HD8.out, HB8.out, HZ8.out⟩, by simp [intOf]; omega⟩
    · obtain rfl : j = n := by omega
      have hM : A.take j = A := List.take_of_length_le (by rw [HNA.out]; exact Nat.le_refl _)
      rw [hM] at HO HC
      clear hM HPW
      obtain ⟨w2, hw2⟩ : ∃ x, x = wr := ⟨_, rfl⟩
      rw [← hw2] at HO HC HD HBW HSZ ⊢
      have HO2 := Lib.hid HO.out
      have HD2 := Lib.hid HD.out
      have HB2 := Lib.hid HBW.out
      have HZ2 := Lib.hid HSZ.out
      clear HO HC HD HBW HSZ hw2
      go_wp2_with fail
      go_loopw [13, 45] (fun v x wr => ∃ j : Nat, j ≤ m ∧ x = .int .i64 j ∧ OwnS (w.heap.size + 2) v (textsL p i A ++ textsL q k (B.take j)) wr ∧ Cells (w.heap.size + 1) 24 (nums .u8 (endN q k (B.take j))).toArray wr ∧ Below w.heap.size w wr ∧ w1.heap.size ≤ wr.heap.size) (fun _ x _ => m - (intOf x).toNat)
      case atStart => exact ⟨0, Nat.zero_le _, rfl, by rw [List.take_zero, textsL, List.append_nil]; exact HO2.out, HD2.out, HB2.out, HZ2.out⟩
      case round =>
        clear HO2 HD2 HB2 HZ2
        obtain ⟨j, hj, rfl, ho, hc, hb, hsz⟩ := hrel
        have HO := Lib.hid ho
        have HC := Lib.hid hc
        have HBW := Lib.hid hb
        have HSZ := Lib.hid hsz
        have HPW := Lib.hid (RAt.below HPB.out hb)
        clear hb ho hc hsz
        by_cases hkn : j < m
        · obtain ⟨y, hy⟩ : ∃ y, B[j]? = some y := ⟨_, List.getElem?_eq_getElem (by rw [HNB.out]; exact hkn)⟩
          have htk : B.take (j + 1) = B.take j ++ [y] := by
            have h1 : B[j]'(by rw [HNB.out]; exact hkn) = y := by
              rw [List.getElem?_eq_getElem (by rw [HNB.out]; exact hkn)] at hy
              exact Option.some.inj hy
            rw [List.take_succ_eq_append_getElem (by rw [HNB.out]; exact hkn), h1]
          have hlk : (B.take j).length = j := by rw [List.length_take, HNB.out]; omega
          have HTE := Shut.mk (show endN q k (B.take (j + 1)) = linkN (endN q k (B.take j)) (k + j) y by rw [htk, endN_snoc, hlk])
          have HTL := Shut.mk (show textsL p i A ++ textsL q k (B.take (j + 1)) = (textsL p i A ++ textsL q k (B.take j)) ++ [linkT (endN q k (B.take j)) (k + j) y] by rw [htk, textsL_snoc, hlk, List.append_assoc])
          have HY := Lib.hid (HLB.out y (List.mem_of_getElem? hy))
          obtain ⟨b, ob, rfl, hbl, hr⟩ := RAt.getM HPW.out hy
          have HR := Lib.hid hr
          have HSL := Lib.hid (sizeEL HY.out.1.ok)
          have HSV := Lib.hid (sizeEV HY.out.1.ok)
          have HEK := Lib.hid (endN_ok HQK.out (B.take j) k)
          have HML := Lib.hid (show (textsL p i A ++ textsL q k (B.take j)).length ≤ 500000 by rw [List.length_append, textsL_len, textsL_len, hlk, HNA.out]; omega)
          obtain ⟨M, hM⟩ : ∃ M, textsL p i A ++ textsL q k (B.take j) = M := ⟨_, rfl⟩
          obtain ⟨E, hE⟩ : ∃ E, endN q k (B.take j) = E := ⟨_, rfl⟩
          rw [hM] at HO HTL HML
          rw [hE] at HC HTE HTL HEK
          clear hy hbl hr hM hE htk hlk
          have HSE := Lib.hid (show (Tryd.prog.info? 24).map (·.size) = some E.length by rw [HEK.out.1]; exact Tryd.sizeI)
          have HLK := Lib.hid (fun w' => ref_link E (k + j) y HEK.out (by omega) HY.out.1 HY.out.2 w')
          have HLT := Lib.hid (fun w' => ref_linkText E (k + j) y HEK.out (by omega) HY.out.1 HY.out.2 w')
          obtain ⟨U, hU⟩ : ∃ U, linkN E (k + j) y = U := ⟨_, rfl⟩
          obtain ⟨T, hT⟩ : ∃ T, linkT E (k + j) y = T := ⟨_, rfl⟩
          have HUK := Lib.hid (show IdOk U by rw [← hU]; exact linkN_ok _ _ _)
          have HSU := Lib.hid (show (Tryd.prog.info? 24).map (·.size) = some U.length by rw [HUK.out.1]; exact Tryd.sizeI)
          rw [hU] at HTE HLK
          rw [hT] at HTL HLT
          clear hU hT
          obtain ⟨ap, cp, rfl⟩ := HO.out.form
          have HGO := Lib.hid (fun g hg => (World.ownsRow.lt HO.out g hg).2)
          go_wp2_with (first
            | (refine wpList_load_mid rfl 35 _ rfl b (ob + j * 73) rfl _ _ HR.out Tryd.underlying35 rfl HSL.out ?_)
            | (refine wpList_alloc_of rfl 35 rfl (entL noE) HZE.out ?_)
            | (refine wpList_store_cells rfl 35 _ _ rfl rfl wr.heap.size (entV noE) (entV y) 35 rfl rfl (heap_alloc_new wr _) HSV.out (by rw [entV_size HY.out.1.ok]; rfl) (entV_all y) ?_))
          intro w4 hc hb
          have hb4 : Below wr.heap.size wr w4 := But.toBelow ((Below.refl _ wr).alloc (Nat.le_refl _) _) hb.out (Nat.le_refl _) (by rw [World.size_alloc]; exact Nat.le_succ _)
          have HC4 := Lib.hid hc.out
          have HB4 := Lib.hid (HBW.out.trans (hb4.mono HBW.out.size))
          have HO4 := Lib.hid (HO.out.below hb4)
          have HP4 := Lib.hid (Cells.below HC.out hb4)
          have HZ4 := Lib.hid (Nat.le_trans HSZ.out hb4.size)
          obtain ⟨g5, hg5⟩ : ∃ g, wr.heap.size = g := ⟨_, rfl⟩
          rw [hg5] at HC4 HGO ⊢
          clear hc hb hb4 hg5 HO HR HSL HC
          go_wp2_with (first
            | (refine wpList_load_nums rfl 24 _ rfl (w.heap.size + 1) .u8 E 24 _ rfl HP4.out Tryd.underlying24 rfl HSE.out ?_)
            | (refine wpList_load_cells rfl 35 _ rfl g5 (entV y) 35 _ rfl HC4.out Tryd.underlying35 rfl HSV.out ?_))
          refine (HLT.out w4).mono ?_
          rintro r w5 ⟨rfl, hb⟩
          have HB5 := Lib.hid (HB4.out.trans (hb.mono HB4.out.size))
          have HO5 := Lib.hid (HO4.out.below hb)
          have HP5 := Lib.hid (Cells.below HP4.out hb)
          have HC5 := Lib.hid (Cells.below HC4.out hb)
          have HZ5 := Lib.hid (Nat.le_trans HZ4.out hb.size)
          clear hb HB4 HO4 HP4 HZ4 HC4
          have HS := Lib.hid (strs_lit w5 [T] 9)
          go_wp2_with (refine wpList_push_strs rfl _ _ rfl (w.heap.size + 2) _ M [T] (some ⟨w5.heap.size, 0, none⟩) 1 1 rfl rfl (HO5.out.below ((Below.refl _ w5).alloc (Nat.le_refl _) _)) rfl HS.out (fun h => by cases h) (by have := HML.out; simp only [List.length_singleton]; omega) (by rw [World.size_alloc]; have := HZ5.out; have := HS1.out; omega) ?_)
          intro v6 w6 ho hb hgr
          have hb6 : Below (w.heap.size + 2) w5 w6 := ((Below.refl _ w5).alloc (by have := HZ5.out; have := HS1.out; omega) _).trans hb.out
          have HO6 := Lib.hid ho.out
          have HP6 := Lib.hid (show Cells (w.heap.size + 1) 24 (nums .u8 E).toArray w6 from (hb6.block _ (by omega)).trans HP5.out)
          have HB6 := Lib.hid (HB5.out.trans (hb6.mono (by omega)))
          have HZ6 := Lib.hid (Nat.le_trans HZ5.out hb6.size)
          have HC6 := Lib.hid (show Cells g5 35 (entV y) w6 from Cells.only (Cells.alloc HC5.out _) ((Only.refl _ _).grown hgr.out (fun b hb => .inl hb)) (fun e => absurd (HGO.out g5 e) (Nat.lt_irrefl _)))
          clear ho hb hgr hb6 HGO HS HO5 HB5 HP5 HZ5 HC5
          go_wp2_with (first
            | (refine wpList_load_nums rfl 24 _ rfl (w.heap.size + 1) .u8 E 24 _ rfl HP6.out Tryd.underlying24 rfl HSE.out ?_)
            | (refine wpList_load_cells rfl 35 _ rfl g5 (entV y) 35 _ rfl HC6.out Tryd.underlying35 rfl HSV.out ?_))
          refine (HLK.out w6).mono ?_
          rintro r w7 ⟨rfl, hb⟩
          have HB7 := Lib.hid (HB6.out.trans (hb.mono HB6.out.size))
          have HO7 := Lib.hid (HO6.out.below hb)
          have HP7 := Lib.hid (Cells.below HP6.out hb)
          have HZ7 := Lib.hid (Nat.le_trans HZ6.out hb.size)
          clear hb HB6 HO6 HP6 HZ6 HC6
          go_wp2_with (first
            | (refine wpList_store_nums rfl 24 _ _ rfl rfl (w.heap.size + 1) .u8 E U 24 rfl rfl HP7.out HSU.out (by rw [HEK.out.1, HUK.out.1]) ?_))
          intro w8 hc8 hb8
          have HP8 := Lib.hid hc8.out
          have HB8 := Lib.hid (show Below w.heap.size w w8 from But.toBelow HB7.out hb8.out (by omega) HB7.out.size)
          have HO8 := Lib.hid (HO7.out.but hb8.out (by omega))
          have HZ8 := Lib.hid (Nat.le_trans HZ7.out hb8.out.size)
          clear hc8 hb8 HP7 HB7 HO7 HZ7
          go_wp2_with fail
          exact ⟨⟨j + 1, by omega, by go_num, by rw [HTL.out]; exact HO8.out, by rw [HTE.out]; exact HP8.out, HB8.out, HZ8.out⟩, by simp [intOf]; omega⟩
        · obtain rfl : j = m := by omega
          have hM : B.take j = B := List.take_of_length_le (by rw [HNB.out]; exact Nat.le_refl _)
          rw [hM] at HO
          obtain ⟨T, hT⟩ : ∃ T, textsL p i A ++ textsL q k B = T := ⟨_, rfl⟩
          have HTT := Shut.mk hT
          rw [hT] at HO HSH HTN
          obtain ⟨w2, hw2⟩ : ∃ x, x = wr := ⟨_, rfl⟩
          rw [← hw2] at HO HBW HC ⊢
          obtain ⟨ap, cp, rfl⟩ := HO.out.form
          have HCP := Lib.hid (OwnS.cap16 HO.out)
          have HO2 := Lib.hid HO.out
          have HB2 := Lib.hid HBW.out
          obtain ⟨N, hN⟩ : ∃ N, T.length = N := ⟨_, rfl⟩
          have HTL := Shut.mk hN
          rw [hN] at HCP HO2 ⊢
          have hNN : N ≤ 200000 := by have := HTN.out; omega
          clear hM HPW HC HO HBW HSZ hw2 hT hN HTN
          go_wp2_with fail
          go_loopw [68] (fun x wr => ∃ d : Nat, d ≤ N ∧ x = .int .i64 d ∧ NoneN T d ∧ OwnS (w.heap.size + 2) (.slice ap N cp) T wr ∧ Below w.heap.size w wr) (fun x _ => N - (intOf x).toNat)
          case atStart => exact ⟨0, Nat.zero_le _, rfl, fun b hb => by omega, HO2.out, HB2.out⟩
          case round =>
            clear HO2 HB2
            obtain ⟨d, hd, rfl, hnc, ho, hb⟩ := hrel
            have HNC := Lib.hid hnc
            have HO3 := Lib.hid ho
            have HB3 := Lib.hid hb
            clear hnc ho hb
            by_cases hdn : d < N
            · have HSLH := Lib.hid (fun w => slice_strs_hi ap N cp d (Nat.le_of_lt hdn) HCP.out w)
              obtain ⟨w3, hw3⟩ : ∃ x, x = wr := ⟨_, rfl⟩
              rw [← hw3] at HO3 HB3 ⊢
              clear hw3
              go_wp2_with (refine wpList_slice_hi16 rfl 78 _ _ rfl _ _ _ rfl rfl HSLH.out ?_)
              go_loopw [75] (fun x wr => ∃ a : Nat, a ≤ d ∧ x = .int .i64 a ∧ (∀ a', a' < a → ∀ s t, T[d]? = some s → T[a']? = some t → s ≠ t → shaN s ≠ shaN t) ∧ OwnS (w.heap.size + 2) (.slice ap N cp) T wr ∧ Below w.heap.size w wr) (fun x _ => d - (intOf x).toNat)
              case atStart => exact ⟨0, Nat.zero_le _, rfl, fun b hb => by omega, HO3.out, HB3.out⟩
              case round =>
                clear HO3 HB3
                obtain ⟨a, had, rfl, hac, ho, hb⟩ := hrel
                have HAC := Lib.hid hac
                have HO := Lib.hid ho
                have HBW := Lib.hid hb
                clear hac ho hb
                by_cases hlt : a < d
                · obtain ⟨s, hs⟩ : ∃ s, T[d]? = some s := ⟨_, List.getElem?_eq_getElem (by rw [HTL.out]; exact hdn)⟩
                  obtain ⟨u, hu⟩ : ∃ u, T[a]? = some u := ⟨_, List.getElem?_eq_getElem (by rw [HTL.out]; omega)⟩
                  have HSE := Shut.mk hs
                  have HUE := Shut.mk hu
                  obtain ⟨g, og, rfl, hg, hcell⟩ := strsG16 (strsAt_own (l := T) (by have h := HO.out; rw [← HTL.out] at h; exact h)) (fun e => by rw [e] at hs; cases hs)
                  have cs := hcell d (by rw [HTL.out]; exact hdn)
                  have cu := hcell a (by rw [HTL.out]; omega)
                  rw [(List.getElem?_eq_some_iff.1 hs).2] at cs
                  rw [(List.getElem?_eq_some_iff.1 hu).2] at cu
                  have HCS := Lib.hid (fun (w' : World) (k : Below wr.heap.size wr w') => (k.cell (p := ⟨g, og + d, none⟩) hg).trans cs)
                  have HCT := Lib.hid (fun (w' : World) (k : Below wr.heap.size wr w') => (k.cell (p := ⟨g, og + a, none⟩) hg).trans cu)
                  have HXS := Lib.hid (index_str16 g og N cp d hdn)
                  have HXT := Lib.hid (index_str16 g og N cp a (by omega))
                  have HOS := Lib.hid (fun w' => of_any s w' (by have := HSH.out s (List.mem_of_getElem? hs); omega))
                  have HOU := Lib.hid (fun w' => of_any u w' (by have := HSH.out u (List.mem_of_getElem? hu); omega))
                  have hnq := neq_text16 s u
                  have hsS : IdOk (shaN s) := ⟨shaN_len _, shaN_lt _⟩
                  have hsR : IdOk (shaN u) := ⟨shaN_len _, shaN_lt _⟩
                  have heq := eql_id16 _ _ hsS hsR
                  obtain ⟨S, hS⟩ : ∃ S, shaN s = S := ⟨_, rfl⟩
                  obtain ⟨R, hR⟩ : ∃ R, shaN u = R := ⟨_, rfl⟩
                  rw [hS] at HOS heq
                  rw [hR] at HOU heq
                  have HSS := Shut.mk hS
                  have HRR := Shut.mk hR
                  obtain ⟨z1, hz1⟩ : ∃ z, (!(s == u)) = z := ⟨_, rfl⟩
                  obtain ⟨z2, hz2⟩ : ∃ z, (S == R) = z := ⟨_, rfl⟩
                  rw [hz1] at hnq
                  rw [hz2] at heq
                  have HNQ := Lib.hid hnq
                  have HEQ := Lib.hid heq
                  have HZ1 := Shut.mk hz1
                  have HZ2 := Shut.mk hz2
                  clear hs hu hg hcell cs cu hnq heq hS hR hz1 hz2 hsS hsR HSLH
                  have HNX := Lib.hid (show (s = u ∨ S ≠ R) → ∀ a', a' < a + 1 → ∀ s t, T[d]? = some s → T[a']? = some t → s ≠ t → shaN s ≠ shaN t from fun hc a' ha' s' t' h1 h2 h3 => by
                    by_cases e : a' = a
                    · subst e
                      rw [HSE.out] at h1
                      rw [HUE.out] at h2
                      cases h1
                      cases h2
                      rcases hc with hc | hc
                      · exact absurd hc h3
                      · rw [HSS.out, HRR.out]; exact hc
                    · exact HAC.out a' (by omega) s' t' h1 h2 h3)
                  go_upto_region 20 with (fail)
                  cases z1 with
                  | false =>
                    have HSU := Lib.hid (show s = u by have := HZ1.out; simpa using this)
                    refine wp_region_class (fun w' => Below wr.heap.size wr w') (by kernel_rfl) (by kernel_rfl) (Below.refl _ _).drew ?_
                    repeat (first
                      | go_big_quiet_skip
                      | (go_big_quiet_want; refine quiet_indexAt 78 _ _ rfl _ _ _ rfl rfl HXS.out ?_; go_big_quiet_on; simp only [Act.put, List.setIfInBounds_toArray, List.set_cons_zero, List.set_cons_succ])
                      | (go_big_quiet_want; refine quiet_indexAt 78 _ _ rfl _ _ _ rfl rfl HXT.out ?_; go_big_quiet_on; simp only [Act.put, List.setIfInBounds_toArray, List.set_cons_zero, List.set_cons_succ])
                      | (go_big_quiet_want; refine quiet_load_cell 9 _ rfl ⟨g, og + d, none⟩ _ rfl HCS.out Tryd.isAgg9 ?_; go_big_quiet_on; simp only [Act.put, List.setIfInBounds_toArray, List.set_cons_zero, List.set_cons_succ])
                      | (go_big_quiet_want; refine quiet_load_cell 9 _ rfl ⟨g, og + a, none⟩ _ rfl HCT.out Tryd.isAgg9 ?_; go_big_quiet_on; simp only [Act.put, List.setIfInBounds_toArray, List.set_cons_zero, List.set_cons_succ])
                      | (go_big_quiet_want; refine quiet_bin .neq 9 9 _ _ rfl (.string ⟨s.toArray⟩) (.string ⟨u.toArray⟩) _ rfl rfl (fun w => rfl) HNQ.out ?_; go_big_quiet_on; simp only [Act.put, List.setIfInBounds_toArray, List.set_cons_zero, List.set_cons_succ])
                      | (go_big_quiet_want; refine quiet_bin .eql 24 24 _ _ rfl (.agg (nums .u8 S).toArray) (.agg (nums .u8 R).toArray) _ rfl rfl (fun w => run_eqGuard_agg w .eql 24 _ _ _ _ (by kernel_rfl)) HEQ.out ?_; go_big_quiet_on; simp only [Act.put, List.setIfInBounds_toArray, List.set_cons_zero, List.set_cons_succ])
                      | go_big_quiet_step ((intro hs'; first
                          | rfl
                          | (go_at_call_of 36 (Value.string ⟨s.toArray⟩); exact (HOS.out _).mono fun e w' h => ⟨h.1, hs'.trans (h.2.mono hs'.size)⟩)
                          | (go_at_call_of 36 (Value.string ⟨u.toArray⟩); exact (HOU.out _).mono fun e w' h => ⟨h.1, hs'.trans (h.2.mono hs'.size)⟩))))
                    refine wpQuiet_nil ?_
                    intro w6 hs6
                    have HB6 := Lib.hid (HBW.out.trans (hs6.mono HBW.out.size))
                    have HO6 := Lib.hid (HO.out.below hs6)
                    clear hs6
                    go_wp2_with fail
                    exact ⟨⟨a + 1, by omega, by go_num, HNX.out (.inl HSU.out), HO6.out, HB6.out⟩, by simp [intOf]; omega⟩
                  | true =>
                    cases z2 with
                    | true =>
                      refine wp_region_class (fun w' => Below wr.heap.size wr w') (by kernel_rfl) (by kernel_rfl) (Below.refl _ _).drew ?_
                      repeat (first
                        | go_big_quiet_skip
                        | (go_big_quiet_want; refine quiet_indexAt 78 _ _ rfl _ _ _ rfl rfl HXS.out ?_; go_big_quiet_on; simp only [Act.put, List.setIfInBounds_toArray, List.set_cons_zero, List.set_cons_succ])
                        | (go_big_quiet_want; refine quiet_indexAt 78 _ _ rfl _ _ _ rfl rfl HXT.out ?_; go_big_quiet_on; simp only [Act.put, List.setIfInBounds_toArray, List.set_cons_zero, List.set_cons_succ])
                        | (go_big_quiet_want; refine quiet_load_cell 9 _ rfl ⟨g, og + d, none⟩ _ rfl HCS.out Tryd.isAgg9 ?_; go_big_quiet_on; simp only [Act.put, List.setIfInBounds_toArray, List.set_cons_zero, List.set_cons_succ])
                        | (go_big_quiet_want; refine quiet_load_cell 9 _ rfl ⟨g, og + a, none⟩ _ rfl HCT.out Tryd.isAgg9 ?_; go_big_quiet_on; simp only [Act.put, List.setIfInBounds_toArray, List.set_cons_zero, List.set_cons_succ])
                        | (go_big_quiet_want; refine quiet_bin .neq 9 9 _ _ rfl (.string ⟨s.toArray⟩) (.string ⟨u.toArray⟩) _ rfl rfl (fun w => rfl) HNQ.out ?_; go_big_quiet_on; simp only [Act.put, List.setIfInBounds_toArray, List.set_cons_zero, List.set_cons_succ])
                        | (go_big_quiet_want; refine quiet_bin .eql 24 24 _ _ rfl (.agg (nums .u8 S).toArray) (.agg (nums .u8 R).toArray) _ rfl rfl (fun w => run_eqGuard_agg w .eql 24 _ _ _ _ (by kernel_rfl)) HEQ.out ?_; go_big_quiet_on; simp only [Act.put, List.setIfInBounds_toArray, List.set_cons_zero, List.set_cons_succ])
                        | go_big_quiet_step ((intro hs'; first
                            | rfl
                            | (go_at_call_of 36 (Value.string ⟨s.toArray⟩); exact (HOS.out _).mono fun e w' h => ⟨h.1, hs'.trans (h.2.mono hs'.size)⟩)
                            | (go_at_call_of 36 (Value.string ⟨u.toArray⟩); exact (HOU.out _).mono fun e w' h => ⟨h.1, hs'.trans (h.2.mono hs'.size)⟩))))
                      refine wpQuiet_nil ?_
                      intro w6 hs6
                      have HB6 := Lib.hid (HBW.out.trans (hs6.mono HBW.out.size))
                      have HO6 := Lib.hid (HO.out.below hs6)
                      clear hs6
                      go_wp2_with fail
                      go_ret
                      exact ⟨⟨true, rfl, fun h => by cases h⟩, HB6.out⟩
                    | false =>
                      have HSR := Lib.hid (show S ≠ R by have := HZ2.out; simpa using this)
                      refine wp_region_class (fun w' => Below wr.heap.size wr w') (by kernel_rfl) (by kernel_rfl) (Below.refl _ _).drew ?_
                      repeat (first
                        | go_big_quiet_skip
                        | (go_big_quiet_want; refine quiet_indexAt 78 _ _ rfl _ _ _ rfl rfl HXS.out ?_; go_big_quiet_on; simp only [Act.put, List.setIfInBounds_toArray, List.set_cons_zero, List.set_cons_succ])
                        | (go_big_quiet_want; refine quiet_indexAt 78 _ _ rfl _ _ _ rfl rfl HXT.out ?_; go_big_quiet_on; simp only [Act.put, List.setIfInBounds_toArray, List.set_cons_zero, List.set_cons_succ])
                        | (go_big_quiet_want; refine quiet_load_cell 9 _ rfl ⟨g, og + d, none⟩ _ rfl HCS.out Tryd.isAgg9 ?_; go_big_quiet_on; simp only [Act.put, List.setIfInBounds_toArray, List.set_cons_zero, List.set_cons_succ])
                        | (go_big_quiet_want; refine quiet_load_cell 9 _ rfl ⟨g, og + a, none⟩ _ rfl HCT.out Tryd.isAgg9 ?_; go_big_quiet_on; simp only [Act.put, List.setIfInBounds_toArray, List.set_cons_zero, List.set_cons_succ])
                        | (go_big_quiet_want; refine quiet_bin .neq 9 9 _ _ rfl (.string ⟨s.toArray⟩) (.string ⟨u.toArray⟩) _ rfl rfl (fun w => rfl) HNQ.out ?_; go_big_quiet_on; simp only [Act.put, List.setIfInBounds_toArray, List.set_cons_zero, List.set_cons_succ])
                        | (go_big_quiet_want; refine quiet_bin .eql 24 24 _ _ rfl (.agg (nums .u8 S).toArray) (.agg (nums .u8 R).toArray) _ rfl rfl (fun w => run_eqGuard_agg w .eql 24 _ _ _ _ (by kernel_rfl)) HEQ.out ?_; go_big_quiet_on; simp only [Act.put, List.setIfInBounds_toArray, List.set_cons_zero, List.set_cons_succ])
                        | go_big_quiet_step ((intro hs'; first
                            | rfl
                            | (go_at_call_of 36 (Value.string ⟨s.toArray⟩); exact (HOS.out _).mono fun e w' h => ⟨h.1, hs'.trans (h.2.mono hs'.size)⟩)
                            | (go_at_call_of 36 (Value.string ⟨u.toArray⟩); exact (HOU.out _).mono fun e w' h => ⟨h.1, hs'.trans (h.2.mono hs'.size)⟩))))
                      refine wpQuiet_nil ?_
                      intro w6 hs6
                      have HB6 := Lib.hid (HBW.out.trans (hs6.mono HBW.out.size))
                      have HO6 := Lib.hid (HO.out.below hs6)
                      clear hs6
                      go_wp2_with fail
                      exact ⟨⟨a + 1, by omega, by go_num, HNX.out (.inr HSR.out), HO6.out, HB6.out⟩, by simp [intOf]; omega⟩
                · obtain rfl : a = d := by omega
                  have HNN := Lib.hid (show NoneN T (a + 1) from fun b hb c hc s t h1 h2 h3 => by
                    by_cases e : b = a
                    · subst e
                      exact HAC.out c hc s t h1 h2 h3
                    · exact HNC.out b (by omega) c hc s t h1 h2 h3)
                  go_wp2_with fail
                  exact ⟨⟨a + 1, by omega, by go_num, HNN.out, HO.out, HBW.out⟩, by simp [intOf]; omega⟩
            · obtain rfl : d = N := by omega
              have HNT := Lib.hid (show ¬ ClashN T from NoneN.not (by rw [HTL.out]; exact HNC.out))
              go_wp2_with fail
              go_ret
              exact ⟨⟨false, rfl, fun _ => by rw [HTT.out]; exact HNT.out⟩, HB3.out⟩
end Go.Proofs.YtpfhlhcnmeodbaaDoor
namespace Go.Proofs.YtpfhlhcnmeodbaaDoor
open Go.RowKit Go.BigFrame
set_option maxHeartbeats 4000000 in
set_option maxRecDepth 100000 in
theorem ref_same15 (A B : List EntN) (pa pb : Option Addr) (ca cb : Nat) (w : World) (hA : ∀ x ∈ A, x.Ok) (hB : ∀ x ∈ B, x.Ok) (hpa : EntsAt pa A w) (hpb : EntsAt pb B w) (hlA : A.length ≤ 140737488351232) (hlB : B.length ≤ 140737488351232) :
    Calls Tryd.prog 23 #[.slice pa A.length ca, .slice pb B.length cb] w fun e w' => e = .returned (.bool (decide (A = B))) ∧ Below w.heap.size w w' := by
  have HPA := Lib.hid hpa
  have HPB := Lib.hid hpb
  have HA := Lib.hid hA
  have HB := Lib.hid hB
  clear hpa hpb hA hB
  obtain ⟨n, hn⟩ : ∃ n, A.length = n := ⟨_, rfl⟩
  obtain ⟨m, hm⟩ : ∃ m, B.length = m := ⟨_, rfl⟩
  have HLA := Shut.mk hn
  have HLB := Shut.mk hm
  rw [hn] at hlA ⊢
  rw [hm] at hlB ⊢
  clear hn hm
  by_cases h3 : ¬ n = m
  · have h3b : ((n : Int) != (m : Int)) = true := by simp; omega
    have HR := Shut.mk (show decide (A = B) = false from decide_eq_false (fun h => h3 (by rw [← HLA.out, ← HLB.out, h])))
    go_enter Tryd.func23, Tryd.ntmps23
    go_wp2_with fail
    go_ret
    exact ⟨by rw [HR.out]; rfl, Below.refl _ _⟩
  have h3 := Classical.not_not.1 h3
  subst h3
  go_enter Tryd.func23, Tryd.ntmps23
  go_wp2_with fail
  go_loopw [13] (fun i wr => ∃ k : Nat, k ≤ n ∧ i = .int .i64 k ∧ (∀ j, j < k → A[j]? = B[j]?) ∧ Below w.heap.size w wr) (fun i _ => n - (intOf i).toNat)
  case atStart => exact ⟨0, Nat.zero_le _, rfl, fun j hj => by omega, Below.refl _ _⟩
  case round =>
    obtain ⟨k, hk, rfl, hj, hb⟩ := hrel
    have HJ := Lib.hid hj
    have HBW := Lib.hid hb
    clear hj hb
    by_cases hkn : k < n
    · obtain ⟨a, hak⟩ : ∃ a, A[k]? = some a := ⟨_, List.getElem?_eq_getElem (by rw [HLA.out]; exact hkn)⟩
      obtain ⟨b, hbk⟩ : ∃ b, B[k]? = some b := ⟨_, List.getElem?_eq_getElem (by rw [HLB.out]; exact hkn)⟩
      have HAK := Shut.mk hak
      have HBK := Shut.mk hbk
      have ham := List.mem_of_getElem? hak
      have hbm := List.mem_of_getElem? hbk
      obtain ⟨ga, oa, rfl, hga, r1⟩ := (HPA.out.below HBW.out).getM hak
      obtain ⟨gb, ob, rfl, hgb, r2⟩ := (HPB.out.below HBW.out).getM hbk
      have HR1 := Lib.hid (fun (w' : World) (q : Below wr.heap.size wr w') => show w'.rangeAt ga (oa + k * 73) (entL a) from rangeAt_belowI r1 q hga)
      have HR2 := Lib.hid (fun (w' : World) (q : Below wr.heap.size wr w') => show w'.rangeAt gb (ob + k * 73) (entL b) from rangeAt_belowI r2 q hgb)
      have HS1 := Lib.hid (sizeEL (HA.out a ham))
      have HS2 := Lib.hid (sizeEL (HB.out b hbm))
      have HNE := Lib.hid (neq_ent a b (HA.out a ham) (HB.out b hbm))
      have HGE := Lib.hid (fun x y w => guard_ent .neq (.inr rfl) x y (entV a) (entV b) w)
      obtain ⟨z, hz⟩ : ∃ z, decide (a = b) = z := ⟨_, rfl⟩
      have HZ := Shut.mk hz
      rw [hz] at HNE
      clear hak hbk ham hbm hga hgb r1 r2 hz
      cases z with
      | true =>
        have HXY := Shut.mk (of_decide_eq_true HZ.out)
        go_upto_region 6 with (fail)
        refine wp_region_class (fun w' => Below wr.heap.size wr w') (by kernel_rfl) (by kernel_rfl) (Below.refl _ _).drew ?_
        repeat (first
          | go_big_quiet_skip
          | (go_big_quiet_want; refine quiet_load_row 35 _ rfl ga (oa + k * 73) (entL a) _ rfl HR1.out Tryd.underlying35 rfl HS1.out ?_; go_big_quiet_on; simp only [Act.put, List.setIfInBounds_toArray, List.set_cons_zero, List.set_cons_succ])
          | (go_big_quiet_want; refine quiet_load_row 35 _ rfl gb (ob + k * 73) (entL b) _ rfl HR2.out Tryd.underlying35 rfl HS2.out ?_; go_big_quiet_on; simp only [Act.put, List.setIfInBounds_toArray, List.set_cons_zero, List.set_cons_succ])
          | (go_big_quiet_want; refine quiet_bin .neq 35 35 _ _ rfl (.agg (entV a)) (.agg (entV b)) _ rfl rfl (HGE.out _ _) HNE.out ?_; go_big_quiet_on; simp only [Act.put, List.setIfInBounds_toArray, List.set_cons_zero, List.set_cons_succ])
          | go_big_quiet_step ((intro hs'; rfl)))
        refine wpQuiet_nil ?_
        intro w3 hb2
        go_wp2_with fail
        refine ⟨⟨k + 1, by omega, by go_num, fun q hq => ?_, HBW.out.trans (hb2.mono HBW.out.size)⟩, by simp [intOf]; omega⟩
        by_cases hqj : q = k
        · subst hqj
          rw [HAK.out, HBK.out, HXY.out]
        · exact HJ.out q (by omega)
      | false =>
        have hxy := of_decide_eq_false HZ.out
        have HR := Shut.mk (show decide (A = B) = false from decide_eq_false (fun h => hxy (by have h1 := HAK.out; rw [h, HBK.out] at h1; exact (Option.some.inj h1).symm)))
        clear hxy
        go_upto_region 6 with (fail)
        refine wp_region_class (fun w' => Below wr.heap.size wr w') (by kernel_rfl) (by kernel_rfl) (Below.refl _ _).drew ?_
        repeat (first
          | go_big_quiet_skip
          | (go_big_quiet_want; refine quiet_load_row 35 _ rfl ga (oa + k * 73) (entL a) _ rfl HR1.out Tryd.underlying35 rfl HS1.out ?_; go_big_quiet_on; simp only [Act.put, List.setIfInBounds_toArray, List.set_cons_zero, List.set_cons_succ])
          | (go_big_quiet_want; refine quiet_load_row 35 _ rfl gb (ob + k * 73) (entL b) _ rfl HR2.out Tryd.underlying35 rfl HS2.out ?_; go_big_quiet_on; simp only [Act.put, List.setIfInBounds_toArray, List.set_cons_zero, List.set_cons_succ])
          | (go_big_quiet_want; refine quiet_bin .neq 35 35 _ _ rfl (.agg (entV a)) (.agg (entV b)) _ rfl rfl (HGE.out _ _) HNE.out ?_; go_big_quiet_on; simp only [Act.put, List.setIfInBounds_toArray, List.set_cons_zero, List.set_cons_succ])
          | go_big_quiet_step ((intro hs'; rfl)))
        refine wpQuiet_nil ?_
        intro w3 hb2
        go_wp2_with fail
        go_ret
        exact ⟨by rw [HR.out]; rfl, HBW.out.trans (hb2.mono HBW.out.size)⟩
    · obtain rfl : k = n := by omega
      have HR := Shut.mk (show decide (A = B) = true from decide_eq_true (ents_all HLA.out HLB.out HJ.out))
      go_wp2_with fail
      go_ret
      exact ⟨by rw [HR.out]; rfl, HBW.out⟩
end Go.Proofs.YtpfhlhcnmeodbaaDoor
namespace Go.Proofs.YtpfhlhcnmeodbaaDoor.chainOne
open Go.RowKit Go.BigFrame Go.Proofs.YtpfhlhcnmeodbaaDoor
theorem of_in {A : List EntN} (h : ∀ x ∈ A, x.In) : ∀ x ∈ A, x.Len ∧ x.seq < 9223372036854775808 := fun x hx => ⟨(h x hx).len16, (h x hx).fit.seq⟩
theorem law_one (p p2 : List Nat) (i k : Int) (A B : List EntN) (hp : IdOk p) (hq : IdOk p2) (hA : ∀ x ∈ A, x.In ∧ GoodE x) (hB : ∀ x ∈ B, x.In ∧ GoodE x) (hl : A.length = B.length) (h0 : A ≠ []) (hn : A.length ≤ 12) (i1 : 1 ≤ i) (i2 : i ≤ 1152921504606846976) (k1 : 1 ≤ k) (k2 : k ≤ 1152921504606846976)
    (hc : ¬ ClashN (textsL p i A ++ textsL p2 k B)) : (endN p i A == endN p2 k B) = decide (p = p2 ∧ i = k ∧ A = B) := by
  rw [Bool.eq_iff_iff]
  simp only [beq_iff_eq, decide_eq_true_eq]
  constructor
  · intro he
    exact chain_one A B p p2 i k hl h0 hp hq (by omega) (by omega) (by omega) (by omega) (fun x hx => ⟨(hA x hx).1.fit, (hA x hx).2⟩) (fun x hx => ⟨(hB x hx).1.fit, (hB x hx).2⟩) he hc
  · rintro ⟨rfl, rfl, rfl⟩
    rfl
theorem eql_arr (a b : List Nat) (ha : IdOk a) (hb : IdOk b) (w : World) : (binOp .eql 22 (.agg (nums .u8 a).toArray) (.agg (nums .u8 b).toArray)).run Tryd.prog w = .ok (.bool (a == b)) w := by
  rw [run_eql_struct, equal_nums _ _ _ Tryd.underlying22 Tryd.underlying5 Tryd.sizeOf5 a b ha.1 hb.1 ha.2 hb.2]
  simp
theorem guard_arr (x y : Operand) (u v : Array Value) (w : World) : (eqGuard .eql 22 x y (.agg u) (.agg v)).run Tryd.prog w = .ok () w := run_eqGuard_agg w .eql 22 x y u v (by kernel_rfl)
theorem guard_id (x y : Operand) (u v : Array Value) (w : World) : (eqGuard .eql 24 x y (.agg u) (.agg v)).run Tryd.prog w = .ok () w := run_eqGuard_agg w .eql 24 x y u v (by kernel_rfl)
theorem index_id (b o n c j : Nat) (hj : j < n) (w : World) : (Instr.indexAt 29 (.slice (some ⟨b, o, none⟩) n c) (.int .i64 (j : Int))).run Tryd.prog w = .ok (.pointer (some ⟨b, o + j * 32, none⟩)) w := by
  have h1 : (j : Int) < (n : Int) := by omega
  go_simp
theorem sub_one (n : Nat) (h : 0 < n) (h2 : n ≤ 12) (w : World) : (binOp .sub 3 (.int .i64 (n : Int)) (.int .i64 1)).run Tryd.prog w = .ok (.int .i64 ((n - 1 : Nat) : Int)) w := by
  obtain ⟨m, rfl⟩ : ∃ m, n = m + 1 := ⟨n - 1, by omega⟩
  rw [Nat.add_sub_cancel]
  have h4 : IntKind.i64.wrap (m : Int) = (m : Int) := by
    simp [IntKind.wrap, IntKind.bits, IntKind.signed]
    omega
  go_simp
theorem last_row {ao : Option Addr} {n : Nat} {L : List (List Nat)} {w : World} {x : List Nat} (h : IAt ao L w) (hn : L.length = n) (h0 : 0 < n) (hx : L[n - 1]? = some x) : ∃ b o, ao = some ⟨b, o, none⟩ ∧ b < w.heap.size ∧ w.rangeAt b (o + (n - 1) * 32) (nums .u8 x) := by
  obtain ⟨b, o, rfl, hb⟩ := h.some (by omega)
  refine ⟨b, o, rfl, hb, ?_⟩
  have h1 := h.get (i := n - 1) (by omega)
  rw [List.getD_eq_getElem?_getD, hx] at h1
  exact h1
set_option maxHeartbeats 8000000 in
set_option maxRecDepth 100000 in
theorem walk (w : World) (hk : KAt w) (p : List Nat) (hp : IdOk p) (i : Int) (wi : (Lit.int .i64 i).wf = true) (ao : Option Addr) (A : List EntN) (ca : Nat) (hat : EntsAt ao A w) (hA : ∀ x ∈ A, x.In) (hn : A.length ≤ 140737488351232)
    (p2 : List Nat) (hq : IdOk p2) (k : Int) (wk : (Lit.int .i64 k).wf = true) (bo : Option Addr) (B : List EntN) (cb : Nat) (hbt : EntsAt bo B w) (hB : ∀ x ∈ B, x.In) (hm : B.length ≤ 140737488351232) :
    Calls Tryd.prog 5 #[.agg (nums .u8 p).toArray, .int .i64 i, .slice ao A.length ca, .agg (nums .u8 p2).toArray, .int .i64 k, .slice bo B.length cb] w fun e w' => e = .returned (.bool true) ∧ Below w.heap.size w w' := by
  have HK := Lib.hid hk
  have HAT := Lib.hid hat
  have HBT := Lib.hid hbt
  have HAI := Lib.hid hA
  have HBI := Lib.hid hB
  have HP := Lib.hid hp
  have HQ := Lib.hid hq
  have HGA := Lib.hid (fun w' (b : Below w.heap.size w w') => great16_any ao A ca w' (fun x hx => (hA x hx).len16) hn (RAt.below hat b))
  have HGB := Lib.hid (fun w' (b : Below w.heap.size w w') => great16_any bo B cb w' (fun x hx => (hB x hx).len16) hm (RAt.below hbt b))
  have BI := bounds_i64 wi
  have BK := bounds_i64 wk
  obtain ⟨n, hnn⟩ : ∃ n, A.length = n := ⟨_, rfl⟩
  obtain ⟨m, hmm⟩ : ∃ m, B.length = m := ⟨_, rfl⟩
  have HN := Shut.mk hnn
  have HM := Shut.mk hmm
  rw [hnn] at hn HGA ⊢
  rw [hmm] at hm HGB ⊢
  have HSP := Lib.hid (show (Tryd.prog.info? 22).map (·.size) = some p.length by rw [HP.out.1]; kernel_rfl)
  have HSQ := Lib.hid (show (Tryd.prog.info? 22).map (·.size) = some p2.length by rw [HQ.out.1]; kernel_rfl)
  clear hk hat hbt hA hB hp hq hnn hmm wi wk
  go_enter Tryd.func5, Tryd.ntmps5
  go_upto_region 1 with (fail)
  obtain ⟨w1, hw1⟩ : ∃ x', x' = (w.alloc (.cells (nums .u8 p).toArray 22)).alloc (.cells (nums .u8 p2).toArray 22) := ⟨_, rfl⟩
  rw [← hw1]
  have hb1 : Below w.heap.size w w1 := by rw [hw1]; exact ((Below.refl _ _).alloc (Nat.le_refl _) _).alloc (by rw [World.size_alloc]; exact Nat.le_succ _) _
  have HP1 := Lib.hid (show Blk w.heap.size 22 .u8 p w1 by rw [hw1]; exact Cells.alloc (heap_alloc_new w _) _)
  have HQ1 := Lib.hid (show Blk (w.heap.size + 1) 22 .u8 p2 w1 by
    rw [hw1]
    have h := heap_alloc_new (w.alloc (.cells (nums .u8 p).toArray 22)) (.cells (nums .u8 p2).toArray 22)
    rw [World.size_alloc] at h
    exact h)
  have HB1 := Lib.hid hb1
  have HK1 := Lib.hid (HK.out.below hb1)
  obtain ⟨gp, hgp⟩ : ∃ g, g = w.heap.size := ⟨_, rfl⟩
  obtain ⟨gq, hgq⟩ : ∃ g, g = w.heap.size + 1 := ⟨_, rfl⟩
  rw [← hgq] at HQ1 ⊢
  rw [← hgp] at HP1 ⊢
  clear hb1 hw1 hgp hgq
  go_wp2_with fail
  refine (alive16_any w1 HK1.out).mono ?_
  rintro e w2 ⟨rfl, hb2⟩
  have HP2 := Lib.hid (HP1.out.below hb2)
  have HQ2 := Lib.hid (HQ1.out.below hb2)
  have HB2 := Lib.hid (HB1.out.trans (hb2.mono HB1.out.size))
  clear hb2 HP1 HQ1 HB1 HK1
  go_wp2_with fail
  refine (HGA.out w2 HB2.out).mono ?_
  rintro e w3 ⟨⟨z1, rfl, hz1⟩, hb3⟩
  have HP3 := Lib.hid (HP2.out.below hb3)
  have HQ3 := Lib.hid (HQ2.out.below hb3)
  have HB3 := Lib.hid (HB2.out.trans (hb3.mono HB2.out.size))
  clear hb3 HP2 HQ2 HB2 HGA
  cases z1 with
  | true =>
    go_wp2_with fail
    go_ret
    exact ⟨rfl, HB3.out⟩
  | false =>
  have HSA := Lib.hid (hz1 rfl)
  clear hz1
  go_wp2_with fail
  refine (HGB.out w3 HB3.out).mono ?_
  rintro e w4 ⟨⟨z2, rfl, hz2⟩, hb4⟩
  have HP4 := Lib.hid (HP3.out.below hb4)
  have HQ4 := Lib.hid (HQ3.out.below hb4)
  have HB4 := Lib.hid (HB3.out.trans (hb4.mono HB3.out.size))
  clear hb4 HP3 HQ3 HB3 HGB
  cases z2 with
  | true =>
    go_wp2_with fail
    go_ret
    exact ⟨rfl, HB4.out⟩
  | false =>
  have HSB := Lib.hid (hz2 rfl)
  clear hz2
  have n12 : n ≤ 12 := by have := HSA.out.1; rw [HN.out] at this; exact this
  by_cases n0 : n = 0
  · have e0 : ((n : Int) == 0) = true := by simp [n0]
    have e1 : decide ((n : Int) = 0) = true := decide_eq_true (by omega)
    go_wp2_with fail
    go_ret
    exact ⟨rfl, HB4.out⟩
  have e0 : ((n : Int) == 0) = false := by simp; omega
  have e1 : decide ((n : Int) = 0) = false := decide_eq_false (by omega)
  by_cases nm' : ¬ n = m
  · have f0 : ((n : Int) == (m : Int)) = false := by simp; omega
    have f1 : ((n : Int) != (m : Int)) = true := by simp; omega
    go_wp2_with fail
    go_ret
    exact ⟨rfl, HB4.out⟩
  have nm : n = m := Classical.byContradiction nm'
  subst nm
  have f0 : ((n : Int) == (n : Int)) = true := by simp
  have f1 : ((n : Int) != (n : Int)) = false := by simp
  by_cases i1 : i < 1
  · go_wp2_with fail
    go_ret
    exact ⟨rfl, HB4.out⟩
  by_cases k1 : k < 1
  · go_wp2_with fail
    go_ret
    exact ⟨rfl, HB4.out⟩
  by_cases i2 : 1152921504606846976 < i
  · go_wp2_with fail
    go_ret
    exact ⟨rfl, HB4.out⟩
  by_cases k2 : 1152921504606846976 < k
  · go_wp2_with fail
    go_ret
    exact ⟨rfl, HB4.out⟩
  have H3 := Lib.hid (show 0 < n ∧ n ≤ 12 ∧ 1 ≤ i ∧ i ≤ 1152921504606846976 ∧ 1 ≤ k ∧ k ≤ 1152921504606846976 by omega)
  go_wp2_with fail
  go_loopw [55] (fun j wr => ∃ t : Nat, t ≤ n ∧ j = .int .i64 t ∧ (∀ x ∈ A.take t, GoodE x) ∧ (∀ x ∈ B.take t, GoodE x) ∧ Below w4.heap.size w4 wr) (fun j _ => n - (intOf j).toNat)
  case atStart => exact ⟨0, Nat.zero_le _, rfl, by simp, by simp, Below.refl _ _⟩
  case round =>
    obtain ⟨w5, rfl⟩ : ∃ z, z = wr := ⟨_, rfl⟩
    obtain ⟨t, ht, rfl, hga, hgb, hb5⟩ := hrel
    have HDD := Lib.hid hb5
    have HB5 := Lib.hid (HB4.out.trans (hb5.mono HB4.out.size))
    have HP5 := Lib.hid (HP4.out.below hb5)
    have HQ5 := Lib.hid (HQ4.out.below hb5)
    have HAT5 := Lib.hid (HAT.out.below HB5.out)
    have HBT5 := Lib.hid (HBT.out.below HB5.out)
    have HTA := Lib.hid hga
    have HTB := Lib.hid hgb
    clear hb5 hga hgb
    by_cases htn : t < n
    · obtain ⟨x, hx⟩ : ∃ x, A[t]? = some x := ⟨_, List.getElem?_eq_getElem (by rw [HN.out]; exact htn)⟩
      obtain ⟨y, hy⟩ : ∃ y, B[t]? = some y := ⟨_, List.getElem?_eq_getElem (by rw [HM.out]; exact htn)⟩
      have HTX := Shut.mk (show A.take (t + 1) = A.take t ++ [x] by
        rw [List.take_add_one, hx]; rfl)
      have HTY := Shut.mk (show B.take (t + 1) = B.take t ++ [y] by
        rw [List.take_add_one, hy]; rfl)
      have HXI := Lib.hid (HAI.out x (List.mem_of_getElem? hx))
      have HYI := Lib.hid (HBI.out y (List.mem_of_getElem? hy))
      obtain ⟨ba, oa, rfl, hbl, hr⟩ := HAT5.out.getM hx
      obtain ⟨bb, ob, rfl, hbl', hr'⟩ := HBT5.out.getM hy
      have HR := Lib.hid hr
      have HRY := Lib.hid (fun (w' : World) (b : Below w5.heap.size w5 w') => rangeAt_belowI hr' b hbl')
      have HSX := Lib.hid (sizeEL HXI.out.ok)
      have HSY := Lib.hid (sizeEL HYI.out.ok)
      have HGX := Lib.hid (fun w' => ref_good15 x HXI.out.len16 w')
      have HGY := Lib.hid (fun w' => ref_good15 y HYI.out.len16 w')
      clear hx hy hbl hr hbl' hr'
      by_cases gx : GoodE x
      · rw [decide_eq_true gx] at HGX
        go_wp2_with (first
          | (refine wpList_load_mid rfl 35 _ rfl ba (oa + t * 73) rfl _ _ HR.out Tryd.underlying35 rfl HSX.out ?_))
        refine (HGX.out w5).mono ?_
        rintro e w6 ⟨rfl, hb6⟩
        have HB6 := Lib.hid (HDD.out.trans (hb6.mono HDD.out.size))
        have HRY6 := Lib.hid (HRY.out w6 hb6)
        clear hb6 HR HRY HGX
        by_cases gy : GoodE y
        · rw [decide_eq_true gy] at HGY
          go_wp2_with (first
            | (refine wpList_load_mid_want (by rfl) 35 _ rfl bb (ob + t * 73) rfl _ _ HRY6.out Tryd.underlying35 rfl HSY.out ?_))
          refine (HGY.out w6).mono ?_
          rintro e w7 ⟨rfl, hb7⟩
          have HB7 := Lib.hid (HB6.out.trans (hb7.mono HB6.out.size))
          clear hb7 HGY
          go_wp2_with fail
          refine ⟨⟨t + 1, by omega, by go_num, ?_, ?_, HB7.out⟩, by simp [intOf]; omega⟩
          · rw [HTX.out]
            intro u hu
            rcases List.mem_append.1 hu with hu | hu
            · exact HTA.out u hu
            · obtain rfl := List.mem_singleton.1 hu
              exact gx
          · rw [HTY.out]
            intro u hu
            rcases List.mem_append.1 hu with hu | hu
            · exact HTB.out u hu
            · obtain rfl := List.mem_singleton.1 hu
              exact gy
        · rw [decide_eq_false gy] at HGY
          go_wp2_with (first
            | (refine wpList_load_mid_want (by rfl) 35 _ rfl bb (ob + t * 73) rfl _ _ HRY6.out Tryd.underlying35 rfl HSY.out ?_))
          refine (HGY.out w6).mono ?_
          rintro e w7 ⟨rfl, hb7⟩
          have HB7 := Lib.hid (HB4.out.trans ((HB6.out.trans (hb7.mono HB6.out.size)).mono HB4.out.size))
          clear hb7 HGY
          go_wp2_with fail
          go_ret
          exact ⟨rfl, HB7.out⟩
      · rw [decide_eq_false gx] at HGX
        go_wp2_with (first
          | (refine wpList_load_mid rfl 35 _ rfl ba (oa + t * 73) rfl _ _ HR.out Tryd.underlying35 rfl HSX.out ?_))
        refine (HGX.out w5).mono ?_
        rintro e w6 ⟨rfl, hb6⟩
        have HB6 := Lib.hid (HB5.out.trans (hb6.mono HB5.out.size))
        clear hb6 HR HRY HGX
        go_wp2_with fail
        go_ret
        exact ⟨rfl, HB6.out⟩
    · obtain rfl : t = n := by omega
      have HGDA := Lib.hid (show ∀ x ∈ A, x.In ∧ GoodE x from fun x hx => ⟨HAI.out x hx, HTA.out x (by rw [List.take_of_length_le (by rw [HN.out]; exact Nat.le_refl _)]; exact hx)⟩)
      have HGDB := Lib.hid (show ∀ x ∈ B, x.In ∧ GoodE x from fun x hx => ⟨HBI.out x hx, HTB.out x (by rw [List.take_of_length_le (by rw [HM.out]; exact Nat.le_refl _)]; exact hx)⟩)
      obtain ⟨t0, t12, ti1, ti2, tk1, tk2⟩ := H3.out
      have HKK := Lib.hid (HK.out.below HB5.out)
      have HDA := Lib.hid (fun w' (b : Below w5.heap.size w5 w') => dev_walk16 p i ao A ca w' HP.out (by omega) (by rw [HN.out]; omega) (of_in HAI.out) (by rw [HN.out]; omega) (HAT5.out.below b) (HKK.out.below b))
      have HDB := Lib.hid (fun w' (b : Below w5.heap.size w5 w') => dev_walk16 p2 k bo B cb w' HQ.out (by omega) (by rw [HM.out]; omega) (of_in HBI.out) (by rw [HM.out]; omega) (HBT5.out.below b) (HKK.out.below b))
      have HCL := Lib.hid (fun w' (b : Below w5.heap.size w5 w') => ref_clash16 p i ao A ca p2 k bo B cb w' HP.out HQ.out (by omega) (by rw [HN.out]; omega) (by omega) (by rw [HM.out]; omega) (of_in HAI.out) (of_in HBI.out) (by rw [HN.out]; omega) (by rw [HM.out]; omega) (HAT5.out.below b) (HBT5.out.below b))
      have HSM := Lib.hid (fun w' (b : Below w5.heap.size w5 w') => ref_same15 A B ao bo ca cb w' (fun x hx => (HAI.out x hx).ok) (fun x hx => (HBI.out x hx).ok) (HAT5.out.below b) (HBT5.out.below b) (by rw [HN.out]; omega) (by rw [HM.out]; omega))
      rw [HN.out] at HDA HCL HSM
      rw [HM.out] at HDB HCL HSM
      have HSD := Lib.hid (law_one p p2 i k A B HP.out HQ.out HGDA.out HGDB.out (by rw [HN.out, HM.out]) (fun e => by rw [e] at HN; have := HN.out; simp at this; omega) (by rw [HN.out]; omega) ti1 ti2 tk1 tk2)
      obtain ⟨XL, hXL⟩ : ∃ x, leadN p i A = x := ⟨_, rfl⟩
      obtain ⟨YL, hYL⟩ : ∃ x, leadN p2 k B = x := ⟨_, rfl⟩
      have HXN := Shut.mk (show XL.length = t by rw [← hXL, leadN_len, HN.out])
      have HYN := Shut.mk (show YL.length = t by rw [← hYL, leadN_len, HM.out])
      have HXI := Lib.hid (show Ids XL by rw [← hXL]; exact fun x hx => leadN_ok A p i x hx)
      have HYI := Lib.hid (show Ids YL by rw [← hYL]; exact fun x hx => leadN_ok B p2 k x hx)
      obtain ⟨X, hX⟩ : ∃ x, endN p i A = x := ⟨_, rfl⟩
      obtain ⟨Y, hY⟩ : ∃ x, endN p2 k B = x := ⟨_, rfl⟩
      have HXE := Lib.hid (show XL[t - 1]? = some X by rw [← hXL, ← hX, ← HN.out]; exact leadN_last p i (fun e => by rw [e] at HN; have := HN.out; simp at this; omega))
      have HYE := Lib.hid (show YL[t - 1]? = some Y by rw [← hYL, ← hY, ← HM.out]; exact leadN_last p2 k (fun e => by rw [e] at HM; have := HM.out; simp at this; omega))
      have HXO := Lib.hid (show IdOk X by rw [← hX]; exact endN_ok HP.out A i)
      have HYO := Lib.hid (show IdOk Y by rw [← hY]; exact endN_ok HQ.out B k)
      rw [hX, hY] at HSD
      rw [hXL] at HDA
      rw [hYL] at HDB
      clear hXL hYL hX hY HTA HTB n0 e0 e1 f0 f1 n12
      go_upto_region 11 with (fail)
      refine wp_region_free 9 (fun q V w' => Vals q V [(0, .agg (nums .u8 p).toArray), (1, .int .i64 i), (2, .slice ao t ca), (4, .agg (nums .u8 p2).toArray), (5, .int .i64 k), (6, .slice bo t cb)] ∧ Res q V 3 (fun (v : Value) (w' : World) => ∃ (ao : Option Addr) (c : Nat), v = Value.slice ao t c ∧ IAt ao XL w') w' ∧ Res q V 7 (fun (v : Value) (w' : World) => ∃ (ao : Option Addr) (c : Nat), v = Value.slice ao t c ∧ IAt ao YL w') w' ∧ Res q V 8 (fun (v : Value) (w' : World) => ∃ (ao : Option Addr) (c : Nat), v = Value.slice ao t c ∧ IAt ao XL w') w' ∧ Below w5.heap.size w5 w') (fun _ => undef) (by kernel_rfl) (by kernel_rfl) (by kernel_rfl) (by simp only [List.take_succ_cons, List.take_zero, putAll, Act.put, List.setIfInBounds_toArray, List.set_cons_zero, List.set_cons_succ]) ⟨Vals.none, Res.none, Res.none, Res.none, (Below.refl _ _).drew⟩ ?_ ?_
      · simp only [List.take_succ_cons, List.take_zero, putAll, Nat.zero_add, Nat.reduceAdd, Act.put, List.setIfInBounds_toArray, List.set_cons_zero, List.set_cons_succ]
        refine FreeSteps.cons ?_ (FreeSteps.cons ?_ (FreeSteps.cons ?_ (FreeSteps.cons ?_ (FreeSteps.cons ?_ (FreeSteps.cons ?_ (FreeSteps.cons ?_ (FreeSteps.cons ?_ (FreeSteps.cons ?_ (FreeSteps.nil)))))))))
        all_goals (refine FreeStep.fresh rfl ?_; rintro q V wq hr hu ⟨hVs, h3, h7, h8, hb⟩ K hK)
        · exact op_load_nums 22 (.tmp 6) rfl gp .u8 p 22 _ rfl (HP5.out.below hb) Tryd.underlying22 rfl HSP.out (hK _ _ ⟨hVs.set rfl, h3.ne (by decide) (fun _ _ _ ⟨ao, c, e, h⟩ k => ⟨ao, c, e, h.below k⟩) (Below.refl _ _), h7.ne (by decide) (fun _ _ _ ⟨ao, c, e, h⟩ k => ⟨ao, c, e, h.below k⟩) (Below.refl _ _), h8.ne (by decide) (fun _ _ _ ⟨ao, c, e, h⟩ k => ⟨ao, c, e, h.below k⟩) (Below.refl _ _), hb⟩)
        · exact op_move (.tmp 1) rfl _ rfl (hK _ _ ⟨hVs.set rfl, h3.ne (by decide) (fun _ _ _ ⟨ao, c, e, h⟩ k => ⟨ao, c, e, h.below k⟩) (Below.refl _ _), h7.ne (by decide) (fun _ _ _ ⟨ao, c, e, h⟩ k => ⟨ao, c, e, h.below k⟩) (Below.refl _ _), h8.ne (by decide) (fun _ _ _ ⟨ao, c, e, h⟩ k => ⟨ao, c, e, h.below k⟩) (Below.refl _ _), hb⟩)
        · exact op_move (.tmp 2) rfl _ rfl (hK _ _ ⟨hVs.set rfl, h3.ne (by decide) (fun _ _ _ ⟨ao, c, e, h⟩ k => ⟨ao, c, e, h.below k⟩) (Below.refl _ _), h7.ne (by decide) (fun _ _ _ ⟨ao, c, e, h⟩ k => ⟨ao, c, e, h.below k⟩) (Below.refl _ _), h8.ne (by decide) (fun _ _ _ ⟨ao, c, e, h⟩ k => ⟨ao, c, e, h.below k⟩) (Below.refl _ _), hb⟩)
        · refine op_call Tryd.func10 rfl rfl rfl [.agg (nums .u8 p).toArray, .int .i64 i, .slice ao t ca] (cons_eq (hVs.get 0 (hr { on := 0, ground := .data } (by simp) rfl) rfl) (cons_eq (hVs.get 1 (hr { on := 1, ground := .data } (by simp) rfl) rfl) (cons_eq (hVs.get 2 (hr { on := 2, ground := .data } (by simp) rfl) rfl) rfl))) (HDA.out wq hb) ?_
          rintro e w' ⟨⟨vr, rfl, ho⟩, hb'⟩
          obtain ⟨ar, cr, rfl⟩ := ho.form
          have hat := ho.at HXI.out
          have hres : (fun (v : Value) (w' : World) => ∃ (ao : Option Addr) (c : Nat), v = Value.slice ao t c ∧ IAt ao XL w') (.slice ar (XL).length cr) w' := ⟨ar, cr, by rw [HXN.out], hat⟩
          exact ⟨_, rfl, (hK _ _ ⟨hVs.off rfl, .same hres, h7.ne (by decide) (fun _ _ _ ⟨ao, c, e, h⟩ k => ⟨ao, c, e, h.below k⟩) hb', h8.ne (by decide) (fun _ _ _ ⟨ao, c, e, h⟩ k => ⟨ao, c, e, h.below k⟩) hb', hb.trans (hb'.mono hb.size)⟩)⟩
        · exact op_load_nums 22 (.tmp 9) rfl gq .u8 p2 22 _ rfl (HQ5.out.below hb) Tryd.underlying22 rfl HSQ.out (hK _ _ ⟨hVs.set rfl, h3.ne (by decide) (fun _ _ _ ⟨ao, c, e, h⟩ k => ⟨ao, c, e, h.below k⟩) (Below.refl _ _), h7.ne (by decide) (fun _ _ _ ⟨ao, c, e, h⟩ k => ⟨ao, c, e, h.below k⟩) (Below.refl _ _), h8.ne (by decide) (fun _ _ _ ⟨ao, c, e, h⟩ k => ⟨ao, c, e, h.below k⟩) (Below.refl _ _), hb⟩)
        · exact op_move (.tmp 4) rfl _ rfl (hK _ _ ⟨hVs.set rfl, h3.ne (by decide) (fun _ _ _ ⟨ao, c, e, h⟩ k => ⟨ao, c, e, h.below k⟩) (Below.refl _ _), h7.ne (by decide) (fun _ _ _ ⟨ao, c, e, h⟩ k => ⟨ao, c, e, h.below k⟩) (Below.refl _ _), h8.ne (by decide) (fun _ _ _ ⟨ao, c, e, h⟩ k => ⟨ao, c, e, h.below k⟩) (Below.refl _ _), hb⟩)
        · exact op_move (.tmp 5) rfl _ rfl (hK _ _ ⟨hVs.set rfl, h3.ne (by decide) (fun _ _ _ ⟨ao, c, e, h⟩ k => ⟨ao, c, e, h.below k⟩) (Below.refl _ _), h7.ne (by decide) (fun _ _ _ ⟨ao, c, e, h⟩ k => ⟨ao, c, e, h.below k⟩) (Below.refl _ _), h8.ne (by decide) (fun _ _ _ ⟨ao, c, e, h⟩ k => ⟨ao, c, e, h.below k⟩) (Below.refl _ _), hb⟩)
        · refine op_call Tryd.func10 rfl rfl rfl [.agg (nums .u8 p2).toArray, .int .i64 k, .slice bo t cb] (cons_eq (hVs.get 4 (hr { on := 4, ground := .data } (by simp) rfl) rfl) (cons_eq (hVs.get 5 (hr { on := 5, ground := .data } (by simp) rfl) rfl) (cons_eq (hVs.get 6 (hr { on := 6, ground := .data } (by simp) rfl) rfl) rfl))) (HDB.out wq hb) ?_
          rintro e w' ⟨⟨vr, rfl, ho⟩, hb'⟩
          obtain ⟨ar, cr, rfl⟩ := ho.form
          have hat := ho.at HYI.out
          have hres : (fun (v : Value) (w' : World) => ∃ (ao : Option Addr) (c : Nat), v = Value.slice ao t c ∧ IAt ao YL w') (.slice ar (YL).length cr) w' := ⟨ar, cr, by rw [HYN.out], hat⟩
          exact ⟨_, rfl, (hK _ _ ⟨hVs.off rfl, h3.ne (by decide) (fun _ _ _ ⟨ao, c, e, h⟩ k => ⟨ao, c, e, h.below k⟩) hb', .same hres, h8.ne (by decide) (fun _ _ _ ⟨ao, c, e, h⟩ k => ⟨ao, c, e, h.below k⟩) hb', hb.trans (hb'.mono hb.size)⟩)⟩
        · have hres := h3 (hr { on := 3, ground := .data } (by simp) rfl)
          exact op_assign (.tmp 76) rfl _ rfl (hK _ _ ⟨hVs.off rfl, h3.ne (by decide) (fun _ _ _ ⟨ao, c, e, h⟩ k => ⟨ao, c, e, h.below k⟩) (Below.refl _ _), h7.ne (by decide) (fun _ _ _ ⟨ao, c, e, h⟩ k => ⟨ao, c, e, h.below k⟩) (Below.refl _ _), .same hres, hb⟩)
      rintro q V wq hall ⟨hVs, h3, h7, h8, hb⟩
      have v0 := hVs.get 0 (hall 0 (by decide)) rfl
      have v1 := hVs.get 1 (hall 1 (by decide)) rfl
      have v2 := hVs.get 2 (hall 2 (by decide)) rfl
      have hs3 := h3 (hall 3 (by decide))
      obtain ⟨u3, v3⟩ : ∃ v, V 3 = v := ⟨_, rfl⟩
      rw [v3] at hs3
      have v4 := hVs.get 4 (hall 4 (by decide)) rfl
      have v5 := hVs.get 5 (hall 5 (by decide)) rfl
      have v6 := hVs.get 6 (hall 6 (by decide)) rfl
      have hs7 := h7 (hall 7 (by decide))
      obtain ⟨u7, v7⟩ : ∃ v, V 7 = v := ⟨_, rfl⟩
      rw [v7] at hs7
      have hs8 := h8 (hall 8 (by decide))
      obtain ⟨u8, v8⟩ : ∃ v, V 8 = v := ⟨_, rfl⟩
      rw [v8] at hs8
      simp only [List.take_succ_cons, List.take_zero, List.drop_succ_cons, List.drop_zero, putAll, Nat.zero_add, Nat.reduceAdd, v0, v1, v2, v3, v4, v5, v6, v7, v8, Act.put, List.setIfInBounds_toArray, List.set_cons_zero, List.set_cons_succ]
      clear hVs v0 v1 v2 v3 v4 v5 v6 v7 v8 hall
      obtain ⟨w6, hw6⟩ : ∃ x, x = wq := ⟨_, rfl⟩
      rw [← hw6] at hb hs7 hs8 ⊢
      obtain ⟨a3, c3, rfl, hi3⟩ := hs8
      obtain ⟨a7, c7, rfl, hi7⟩ := hs7
      have HB6 := Lib.hid hb
      have HBW6 := Lib.hid (HB5.out.trans (hb.mono HB5.out.size))
      have HP6 := Lib.hid (HP5.out.below hb)
      have HQ6 := Lib.hid (HQ5.out.below hb)
      have HI3 := Lib.hid hi3
      have HI7 := Lib.hid hi7
      clear hw6 hb hi3 hi7 hs3 HDA HDB
      obtain ⟨e, he⟩ : ∃ e, (p == p2) = e := ⟨_, rfl⟩
      have HEP := Lib.hid (fun w => (eql_arr p p2 HP.out HQ.out w).trans (by rw [he]))
      cases e with
      | false =>
        have hsm : decide (p = p2 ∧ i = k ∧ A = B) = false := decide_eq_false (fun h => by
          rw [h.1] at he
          simp at he)
        clear he
        go_wp2_with (first
          | (refine wpList_load_nums rfl 22 _ rfl gp .u8 p 22 _ rfl HP6.out Tryd.underlying22 rfl HSP.out ?_)
          | (refine wpList_load_nums rfl 22 _ rfl gq .u8 p2 22 _ rfl HQ6.out Tryd.underlying22 rfl HSQ.out ?_)
          | (refine wpList_bin rfl .eql 22 _ _ _ rfl (.agg (nums .u8 p).toArray) (.agg (nums .u8 p2).toArray) _ rfl rfl (guard_arr _ _ _ _) HEP.out ?_))
        obtain ⟨w8, hw8⟩ : ∃ x, x = w6 := ⟨_, rfl⟩
        have HD8 := Lib.hid (show Below w6.heap.size w6 w8 by rw [hw8]; exact Below.refl _ _)
        rw [← hw8]
        clear hw8
        obtain ⟨b3, o3, rfl, hl3, hr3⟩ := last_row (HI3.out.below HD8.out) HXN.out t0 HXE.out
        obtain ⟨b7, o7, rfl, hl7, hr7⟩ := last_row (HI7.out.below HD8.out) HYN.out t0 HYE.out
        have HR3 := Lib.hid (fun (w' : World) (b : Below w8.heap.size w8 w') => rangeAt_belowI hr3 b hl3)
        have HR7 := Lib.hid (fun (w' : World) (b : Below w8.heap.size w8 w') => rangeAt_belowI hr7 b hl7)
        have HIX3 := Lib.hid (index_id b3 o3 t c3 (t - 1) (by omega))
        have HIX7 := Lib.hid (index_id b7 o7 t c7 (t - 1) (by omega))
        have HLP := Lib.hid (fun (w' : World) (b : Below w8.heap.size w8 w') => Cells.below (HP6.out.below HD8.out) b)
        have HLQ := Lib.hid (fun (w' : World) (b : Below w8.heap.size w8 w') => Cells.below (HQ6.out.below HD8.out) b)
        have HSU := Lib.hid (sub_one t t0 t12)
        have HSX := Lib.hid (show (Tryd.prog.info? 24).map (·.size) = some (nums .u8 X).length by rw [nums_len, HXO.out.1]; exact Tryd.sizeI)
        have HSY := Lib.hid (show (Tryd.prog.info? 24).map (·.size) = some (nums .u8 Y).length by rw [nums_len, HYO.out.1]; exact Tryd.sizeI)
        have HW8 := Lib.hid (HB6.out.trans (HD8.out.mono HB6.out.size))
        have HBW8 := Lib.hid (HBW6.out.trans (HD8.out.mono HBW6.out.size))
        clear hl3 hr3 hl7 hr7
        obtain ⟨z, hz⟩ : ∃ z, (X == Y) = z := ⟨_, rfl⟩
        cases z with
        | true =>
          have HZ := Lib.hid (fun w => (eql_id16 X Y HXO.out HYO.out w).trans (by rw [hz]))
          have HZS := Lib.hid (show ∀ w, (binOp .eql 4 (.bool true) (.bool false)).run Tryd.prog w = .ok (.bool false) w from fun w => by kernel_rfl)
          have HCT := Lib.hid (fun w' (b : Below w8.heap.size w8 w') => show Calls Tryd.prog 24 #[.agg (nums .u8 p).toArray, .int .i64 i, .slice ao t ca, .agg (nums .u8 p2).toArray, .int .i64 k, .slice bo t cb] w' fun r w'' => r = .returned (.bool true) ∧ Below w'.heap.size w' w'' from
            (HCL.out w' (HW8.out.trans (b.mono HW8.out.size))).mono fun r w'' ⟨⟨z, hr, hc⟩, hb⟩ => by
              cases z with
              | false =>
                have h := HSD.out (hc rfl)
                rw [hz, hsm] at h
                cases h
              | true => exact ⟨hr, hb⟩)
          clear hz hsm
          go_upto_region 13 with (fail)
          refine wp_region_class (fun w' => Below w8.heap.size w8 w') (by kernel_rfl) (by kernel_rfl) (Below.refl _ _).drew ?_
          repeat (first
            | go_big_quiet_skip
            | (go_big_quiet_want; refine quiet_bin .sub 3 _ _ _ rfl (.int .i64 (t : Int)) (.int .i64 1) _ rfl rfl (fun _ => rfl) HSU.out ?_; go_big_quiet_on; simp only [Act.put, List.setIfInBounds_toArray, List.set_cons_zero, List.set_cons_succ])
            | (go_big_quiet_want; refine quiet_indexAt 29 _ _ rfl (.slice (some ⟨b3, o3, none⟩) t c3) (.int .i64 ((t - 1 : Nat) : Int)) _ rfl rfl HIX3.out ?_; go_big_quiet_on; simp only [Act.put, List.setIfInBounds_toArray, List.set_cons_zero, List.set_cons_succ])
            | (go_big_quiet_want; refine quiet_indexAt 29 _ _ rfl (.slice (some ⟨b7, o7, none⟩) t c7) (.int .i64 ((t - 1 : Nat) : Int)) _ rfl rfl HIX7.out ?_; go_big_quiet_on; simp only [Act.put, List.setIfInBounds_toArray, List.set_cons_zero, List.set_cons_succ])
            | (go_big_quiet_want; refine quiet_load_row 24 _ rfl b3 (o3 + (t - 1) * 32) (nums .u8 X) _ rfl HR3.out Tryd.underlying24 rfl HSX.out ?_; go_big_quiet_on; simp only [Act.put, List.setIfInBounds_toArray, List.set_cons_zero, List.set_cons_succ])
            | (go_big_quiet_want; refine quiet_load_row 24 _ rfl b7 (o7 + (t - 1) * 32) (nums .u8 Y) _ rfl HR7.out Tryd.underlying24 rfl HSY.out ?_; go_big_quiet_on; simp only [Act.put, List.setIfInBounds_toArray, List.set_cons_zero, List.set_cons_succ])
            | (go_big_quiet_want; refine quiet_load_nums 22 _ rfl gp .u8 p 22 _ rfl HLP.out Tryd.underlying22 rfl HSP.out ?_; go_big_quiet_on; simp only [Act.put, List.setIfInBounds_toArray, List.set_cons_zero, List.set_cons_succ])
            | (go_big_quiet_want; refine quiet_load_nums 22 _ rfl gq .u8 p2 22 _ rfl HLQ.out Tryd.underlying22 rfl HSQ.out ?_; go_big_quiet_on; simp only [Act.put, List.setIfInBounds_toArray, List.set_cons_zero, List.set_cons_succ])
            | (go_big_quiet_want; refine quiet_bin .eql 24 _ _ _ rfl (.agg (nums .u8 X).toArray) (.agg (nums .u8 Y).toArray) _ rfl rfl (guard_id _ _ _ _) HZ.out ?_; go_big_quiet_on; simp only [Act.put, List.setIfInBounds_toArray, List.set_cons_zero, List.set_cons_succ])
            | (go_big_quiet_want; refine quiet_bin .eql 4 _ _ _ rfl (.bool true) (.bool false) _ rfl rfl (fun _ => rfl) HZS.out ?_; go_big_quiet_on; simp only [Act.put, List.setIfInBounds_toArray, List.set_cons_zero, List.set_cons_succ])
            | go_big_quiet_step ((intro hs'; first
                | (go_at_call 24; exact (HCT.out _ hs').mono fun e w' h => ⟨h.1, hs'.trans (h.2.mono hs'.size)⟩)
                | rfl)))
          refine wpQuiet_nil ?_
          intro w9 hs9
          have HB9 := Lib.hid (HBW8.out.trans (hs9.mono HBW8.out.size))
          clear hs9
          go_wp2_with fail
          go_ret
          exact ⟨rfl, HB9.out⟩
        | false =>
          have HZ := Lib.hid (fun w => (eql_id16 X Y HXO.out HYO.out w).trans (by rw [hz]))
          have HZS := Lib.hid (show ∀ w, (binOp .eql 4 (.bool false) (.bool false)).run Tryd.prog w = .ok (.bool true) w from fun w => by kernel_rfl)
          clear hz hsm
          go_upto_region 13 with (fail)
          refine wp_region_class (fun w' => Below w8.heap.size w8 w') (by kernel_rfl) (by kernel_rfl) (Below.refl _ _).drew ?_
          repeat (first
            | go_big_quiet_skip
            | (go_big_quiet_want; refine quiet_bin .sub 3 _ _ _ rfl (.int .i64 (t : Int)) (.int .i64 1) _ rfl rfl (fun _ => rfl) HSU.out ?_; go_big_quiet_on; simp only [Act.put, List.setIfInBounds_toArray, List.set_cons_zero, List.set_cons_succ])
            | (go_big_quiet_want; refine quiet_indexAt 29 _ _ rfl (.slice (some ⟨b3, o3, none⟩) t c3) (.int .i64 ((t - 1 : Nat) : Int)) _ rfl rfl HIX3.out ?_; go_big_quiet_on; simp only [Act.put, List.setIfInBounds_toArray, List.set_cons_zero, List.set_cons_succ])
            | (go_big_quiet_want; refine quiet_indexAt 29 _ _ rfl (.slice (some ⟨b7, o7, none⟩) t c7) (.int .i64 ((t - 1 : Nat) : Int)) _ rfl rfl HIX7.out ?_; go_big_quiet_on; simp only [Act.put, List.setIfInBounds_toArray, List.set_cons_zero, List.set_cons_succ])
            | (go_big_quiet_want; refine quiet_load_row 24 _ rfl b3 (o3 + (t - 1) * 32) (nums .u8 X) _ rfl HR3.out Tryd.underlying24 rfl HSX.out ?_; go_big_quiet_on; simp only [Act.put, List.setIfInBounds_toArray, List.set_cons_zero, List.set_cons_succ])
            | (go_big_quiet_want; refine quiet_load_row 24 _ rfl b7 (o7 + (t - 1) * 32) (nums .u8 Y) _ rfl HR7.out Tryd.underlying24 rfl HSY.out ?_; go_big_quiet_on; simp only [Act.put, List.setIfInBounds_toArray, List.set_cons_zero, List.set_cons_succ])
            | (go_big_quiet_want; refine quiet_load_nums 22 _ rfl gp .u8 p 22 _ rfl HLP.out Tryd.underlying22 rfl HSP.out ?_; go_big_quiet_on; simp only [Act.put, List.setIfInBounds_toArray, List.set_cons_zero, List.set_cons_succ])
            | (go_big_quiet_want; refine quiet_load_nums 22 _ rfl gq .u8 p2 22 _ rfl HLQ.out Tryd.underlying22 rfl HSQ.out ?_; go_big_quiet_on; simp only [Act.put, List.setIfInBounds_toArray, List.set_cons_zero, List.set_cons_succ])
            | (go_big_quiet_want; refine quiet_bin .eql 24 _ _ _ rfl (.agg (nums .u8 X).toArray) (.agg (nums .u8 Y).toArray) _ rfl rfl (guard_id _ _ _ _) HZ.out ?_; go_big_quiet_on; simp only [Act.put, List.setIfInBounds_toArray, List.set_cons_zero, List.set_cons_succ])
            | (go_big_quiet_want; refine quiet_bin .eql 4 _ _ _ rfl (.bool false) (.bool false) _ rfl rfl (fun _ => rfl) HZS.out ?_; go_big_quiet_on; simp only [Act.put, List.setIfInBounds_toArray, List.set_cons_zero, List.set_cons_succ])
            | go_big_quiet_step ((intro hs'; first
                | rfl)))
          refine wpQuiet_nil ?_
          intro w9 hs9
          have HB9 := Lib.hid (HBW8.out.trans (hs9.mono HBW8.out.size))
          clear hs9
          go_wp2_with fail
          go_ret
          exact ⟨rfl, HB9.out⟩
      | true =>
        have hpp : p = p2 := by simpa using he
        clear he
        by_cases hik : i = k
        · have g0 : (i == k) = true := by simp [hik]
          have g1 : decide (i = k) = true := decide_eq_true hik
          have hsm0 : decide (p = p2 ∧ i = k ∧ A = B) = decide (A = B) := by
            simp [hpp, hik]
          have HS0 := Shut.mk hsm0
          have HSL := Lib.hid (HSM.out w6 HB6.out)
          obtain ⟨d, hd⟩ : ∃ d, decide (A = B) = d := ⟨_, rfl⟩
          rw [hd] at HS0 HSL
          clear hik hpp hsm0 hd
          go_wp2_with (first
            | (refine wpList_load_nums rfl 22 _ rfl gp .u8 p 22 _ rfl HP6.out Tryd.underlying22 rfl HSP.out ?_)
            | (refine wpList_load_nums rfl 22 _ rfl gq .u8 p2 22 _ rfl HQ6.out Tryd.underlying22 rfl HSQ.out ?_)
            | (refine wpList_bin rfl .eql 22 _ _ _ rfl (.agg (nums .u8 p).toArray) (.agg (nums .u8 p2).toArray) _ rfl rfl (guard_arr _ _ _ _) HEP.out ?_))
          refine HSL.out.mono ?_
          rintro r w8 ⟨rfl, hb8⟩
          have HD8 := Lib.hid hb8
          clear hb8 g0 g1 HSL
          go_wp2_with fail
          obtain ⟨b3, o3, rfl, hl3, hr3⟩ := last_row (HI3.out.below HD8.out) HXN.out t0 HXE.out
          obtain ⟨b7, o7, rfl, hl7, hr7⟩ := last_row (HI7.out.below HD8.out) HYN.out t0 HYE.out
          have HR3 := Lib.hid (fun (w' : World) (b : Below w8.heap.size w8 w') => rangeAt_belowI hr3 b hl3)
          have HR7 := Lib.hid (fun (w' : World) (b : Below w8.heap.size w8 w') => rangeAt_belowI hr7 b hl7)
          have HIX3 := Lib.hid (index_id b3 o3 t c3 (t - 1) (by omega))
          have HIX7 := Lib.hid (index_id b7 o7 t c7 (t - 1) (by omega))
          have HLP := Lib.hid (fun (w' : World) (b : Below w8.heap.size w8 w') => Cells.below (HP6.out.below HD8.out) b)
          have HLQ := Lib.hid (fun (w' : World) (b : Below w8.heap.size w8 w') => Cells.below (HQ6.out.below HD8.out) b)
          have HSU := Lib.hid (sub_one t t0 t12)
          have HSX := Lib.hid (show (Tryd.prog.info? 24).map (·.size) = some (nums .u8 X).length by rw [nums_len, HXO.out.1]; exact Tryd.sizeI)
          have HSY := Lib.hid (show (Tryd.prog.info? 24).map (·.size) = some (nums .u8 Y).length by rw [nums_len, HYO.out.1]; exact Tryd.sizeI)
          have HW8 := Lib.hid (HB6.out.trans (HD8.out.mono HB6.out.size))
          have HBW8 := Lib.hid (HBW6.out.trans (HD8.out.mono HBW6.out.size))
          clear hl3 hr3 hl7 hr7
          cases d with
          | true =>
            have hsm := HS0.out
            obtain ⟨z, hz⟩ : ∃ z, (X == Y) = z := ⟨_, rfl⟩
            cases z with
            | true =>
              have HZ := Lib.hid (fun w => (eql_id16 X Y HXO.out HYO.out w).trans (by rw [hz]))
              have HZS := Lib.hid (show ∀ w, (binOp .eql 4 (.bool true) (.bool true)).run Tryd.prog w = .ok (.bool true) w from fun w => by kernel_rfl)
              clear hz hsm
              go_upto_region 13 with (fail)
              refine wp_region_class (fun w' => Below w8.heap.size w8 w') (by kernel_rfl) (by kernel_rfl) (Below.refl _ _).drew ?_
              repeat (first
                | go_big_quiet_skip
                | (go_big_quiet_want; refine quiet_bin .sub 3 _ _ _ rfl (.int .i64 (t : Int)) (.int .i64 1) _ rfl rfl (fun _ => rfl) HSU.out ?_; go_big_quiet_on; simp only [Act.put, List.setIfInBounds_toArray, List.set_cons_zero, List.set_cons_succ])
                | (go_big_quiet_want; refine quiet_indexAt 29 _ _ rfl (.slice (some ⟨b3, o3, none⟩) t c3) (.int .i64 ((t - 1 : Nat) : Int)) _ rfl rfl HIX3.out ?_; go_big_quiet_on; simp only [Act.put, List.setIfInBounds_toArray, List.set_cons_zero, List.set_cons_succ])
                | (go_big_quiet_want; refine quiet_indexAt 29 _ _ rfl (.slice (some ⟨b7, o7, none⟩) t c7) (.int .i64 ((t - 1 : Nat) : Int)) _ rfl rfl HIX7.out ?_; go_big_quiet_on; simp only [Act.put, List.setIfInBounds_toArray, List.set_cons_zero, List.set_cons_succ])
                | (go_big_quiet_want; refine quiet_load_row 24 _ rfl b3 (o3 + (t - 1) * 32) (nums .u8 X) _ rfl HR3.out Tryd.underlying24 rfl HSX.out ?_; go_big_quiet_on; simp only [Act.put, List.setIfInBounds_toArray, List.set_cons_zero, List.set_cons_succ])
                | (go_big_quiet_want; refine quiet_load_row 24 _ rfl b7 (o7 + (t - 1) * 32) (nums .u8 Y) _ rfl HR7.out Tryd.underlying24 rfl HSY.out ?_; go_big_quiet_on; simp only [Act.put, List.setIfInBounds_toArray, List.set_cons_zero, List.set_cons_succ])
                | (go_big_quiet_want; refine quiet_load_nums 22 _ rfl gp .u8 p 22 _ rfl HLP.out Tryd.underlying22 rfl HSP.out ?_; go_big_quiet_on; simp only [Act.put, List.setIfInBounds_toArray, List.set_cons_zero, List.set_cons_succ])
                | (go_big_quiet_want; refine quiet_load_nums 22 _ rfl gq .u8 p2 22 _ rfl HLQ.out Tryd.underlying22 rfl HSQ.out ?_; go_big_quiet_on; simp only [Act.put, List.setIfInBounds_toArray, List.set_cons_zero, List.set_cons_succ])
                | (go_big_quiet_want; refine quiet_bin .eql 24 _ _ _ rfl (.agg (nums .u8 X).toArray) (.agg (nums .u8 Y).toArray) _ rfl rfl (guard_id _ _ _ _) HZ.out ?_; go_big_quiet_on; simp only [Act.put, List.setIfInBounds_toArray, List.set_cons_zero, List.set_cons_succ])
                | (go_big_quiet_want; refine quiet_bin .eql 4 _ _ _ rfl (.bool true) (.bool true) _ rfl rfl (fun _ => rfl) HZS.out ?_; go_big_quiet_on; simp only [Act.put, List.setIfInBounds_toArray, List.set_cons_zero, List.set_cons_succ])
                | go_big_quiet_step ((intro hs'; first
                    | rfl)))
              refine wpQuiet_nil ?_
              intro w9 hs9
              have HB9 := Lib.hid (HBW8.out.trans (hs9.mono HBW8.out.size))
              clear hs9
              go_wp2_with fail
              go_ret
              exact ⟨rfl, HB9.out⟩
            | false =>
              have HZ := Lib.hid (fun w => (eql_id16 X Y HXO.out HYO.out w).trans (by rw [hz]))
              have HZS := Lib.hid (show ∀ w, (binOp .eql 4 (.bool false) (.bool true)).run Tryd.prog w = .ok (.bool false) w from fun w => by kernel_rfl)
              have HCT := Lib.hid (fun w' (b : Below w8.heap.size w8 w') => show Calls Tryd.prog 24 #[.agg (nums .u8 p).toArray, .int .i64 i, .slice ao t ca, .agg (nums .u8 p2).toArray, .int .i64 k, .slice bo t cb] w' fun r w'' => r = .returned (.bool true) ∧ Below w'.heap.size w' w'' from
                (HCL.out w' (HW8.out.trans (b.mono HW8.out.size))).mono fun r w'' ⟨⟨z, hr, hc⟩, hb⟩ => by
                  cases z with
                  | false =>
                    have h := HSD.out (hc rfl)
                    rw [hz, hsm] at h
                    cases h
                  | true => exact ⟨hr, hb⟩)
              clear hz hsm
              go_upto_region 13 with (fail)
              refine wp_region_class (fun w' => Below w8.heap.size w8 w') (by kernel_rfl) (by kernel_rfl) (Below.refl _ _).drew ?_
              repeat (first
                | go_big_quiet_skip
                | (go_big_quiet_want; refine quiet_bin .sub 3 _ _ _ rfl (.int .i64 (t : Int)) (.int .i64 1) _ rfl rfl (fun _ => rfl) HSU.out ?_; go_big_quiet_on; simp only [Act.put, List.setIfInBounds_toArray, List.set_cons_zero, List.set_cons_succ])
                | (go_big_quiet_want; refine quiet_indexAt 29 _ _ rfl (.slice (some ⟨b3, o3, none⟩) t c3) (.int .i64 ((t - 1 : Nat) : Int)) _ rfl rfl HIX3.out ?_; go_big_quiet_on; simp only [Act.put, List.setIfInBounds_toArray, List.set_cons_zero, List.set_cons_succ])
                | (go_big_quiet_want; refine quiet_indexAt 29 _ _ rfl (.slice (some ⟨b7, o7, none⟩) t c7) (.int .i64 ((t - 1 : Nat) : Int)) _ rfl rfl HIX7.out ?_; go_big_quiet_on; simp only [Act.put, List.setIfInBounds_toArray, List.set_cons_zero, List.set_cons_succ])
                | (go_big_quiet_want; refine quiet_load_row 24 _ rfl b3 (o3 + (t - 1) * 32) (nums .u8 X) _ rfl HR3.out Tryd.underlying24 rfl HSX.out ?_; go_big_quiet_on; simp only [Act.put, List.setIfInBounds_toArray, List.set_cons_zero, List.set_cons_succ])
                | (go_big_quiet_want; refine quiet_load_row 24 _ rfl b7 (o7 + (t - 1) * 32) (nums .u8 Y) _ rfl HR7.out Tryd.underlying24 rfl HSY.out ?_; go_big_quiet_on; simp only [Act.put, List.setIfInBounds_toArray, List.set_cons_zero, List.set_cons_succ])
                | (go_big_quiet_want; refine quiet_load_nums 22 _ rfl gp .u8 p 22 _ rfl HLP.out Tryd.underlying22 rfl HSP.out ?_; go_big_quiet_on; simp only [Act.put, List.setIfInBounds_toArray, List.set_cons_zero, List.set_cons_succ])
                | (go_big_quiet_want; refine quiet_load_nums 22 _ rfl gq .u8 p2 22 _ rfl HLQ.out Tryd.underlying22 rfl HSQ.out ?_; go_big_quiet_on; simp only [Act.put, List.setIfInBounds_toArray, List.set_cons_zero, List.set_cons_succ])
                | (go_big_quiet_want; refine quiet_bin .eql 24 _ _ _ rfl (.agg (nums .u8 X).toArray) (.agg (nums .u8 Y).toArray) _ rfl rfl (guard_id _ _ _ _) HZ.out ?_; go_big_quiet_on; simp only [Act.put, List.setIfInBounds_toArray, List.set_cons_zero, List.set_cons_succ])
                | (go_big_quiet_want; refine quiet_bin .eql 4 _ _ _ rfl (.bool false) (.bool true) _ rfl rfl (fun _ => rfl) HZS.out ?_; go_big_quiet_on; simp only [Act.put, List.setIfInBounds_toArray, List.set_cons_zero, List.set_cons_succ])
                | go_big_quiet_step ((intro hs'; first
                    | (go_at_call 24; exact (HCT.out _ hs').mono fun e w' h => ⟨h.1, hs'.trans (h.2.mono hs'.size)⟩)
                    | rfl)))
              refine wpQuiet_nil ?_
              intro w9 hs9
              have HB9 := Lib.hid (HBW8.out.trans (hs9.mono HBW8.out.size))
              clear hs9
              go_wp2_with fail
              go_ret
              exact ⟨rfl, HB9.out⟩
          | false =>
            have hsm := HS0.out
            obtain ⟨z, hz⟩ : ∃ z, (X == Y) = z := ⟨_, rfl⟩
            cases z with
            | true =>
              have HZ := Lib.hid (fun w => (eql_id16 X Y HXO.out HYO.out w).trans (by rw [hz]))
              have HZS := Lib.hid (show ∀ w, (binOp .eql 4 (.bool true) (.bool false)).run Tryd.prog w = .ok (.bool false) w from fun w => by kernel_rfl)
              have HCT := Lib.hid (fun w' (b : Below w8.heap.size w8 w') => show Calls Tryd.prog 24 #[.agg (nums .u8 p).toArray, .int .i64 i, .slice ao t ca, .agg (nums .u8 p2).toArray, .int .i64 k, .slice bo t cb] w' fun r w'' => r = .returned (.bool true) ∧ Below w'.heap.size w' w'' from
                (HCL.out w' (HW8.out.trans (b.mono HW8.out.size))).mono fun r w'' ⟨⟨z, hr, hc⟩, hb⟩ => by
                  cases z with
                  | false =>
                    have h := HSD.out (hc rfl)
                    rw [hz, hsm] at h
                    cases h
                  | true => exact ⟨hr, hb⟩)
              clear hz hsm
              go_upto_region 13 with (fail)
              refine wp_region_class (fun w' => Below w8.heap.size w8 w') (by kernel_rfl) (by kernel_rfl) (Below.refl _ _).drew ?_
              repeat (first
                | go_big_quiet_skip
                | (go_big_quiet_want; refine quiet_bin .sub 3 _ _ _ rfl (.int .i64 (t : Int)) (.int .i64 1) _ rfl rfl (fun _ => rfl) HSU.out ?_; go_big_quiet_on; simp only [Act.put, List.setIfInBounds_toArray, List.set_cons_zero, List.set_cons_succ])
                | (go_big_quiet_want; refine quiet_indexAt 29 _ _ rfl (.slice (some ⟨b3, o3, none⟩) t c3) (.int .i64 ((t - 1 : Nat) : Int)) _ rfl rfl HIX3.out ?_; go_big_quiet_on; simp only [Act.put, List.setIfInBounds_toArray, List.set_cons_zero, List.set_cons_succ])
                | (go_big_quiet_want; refine quiet_indexAt 29 _ _ rfl (.slice (some ⟨b7, o7, none⟩) t c7) (.int .i64 ((t - 1 : Nat) : Int)) _ rfl rfl HIX7.out ?_; go_big_quiet_on; simp only [Act.put, List.setIfInBounds_toArray, List.set_cons_zero, List.set_cons_succ])
                | (go_big_quiet_want; refine quiet_load_row 24 _ rfl b3 (o3 + (t - 1) * 32) (nums .u8 X) _ rfl HR3.out Tryd.underlying24 rfl HSX.out ?_; go_big_quiet_on; simp only [Act.put, List.setIfInBounds_toArray, List.set_cons_zero, List.set_cons_succ])
                | (go_big_quiet_want; refine quiet_load_row 24 _ rfl b7 (o7 + (t - 1) * 32) (nums .u8 Y) _ rfl HR7.out Tryd.underlying24 rfl HSY.out ?_; go_big_quiet_on; simp only [Act.put, List.setIfInBounds_toArray, List.set_cons_zero, List.set_cons_succ])
                | (go_big_quiet_want; refine quiet_load_nums 22 _ rfl gp .u8 p 22 _ rfl HLP.out Tryd.underlying22 rfl HSP.out ?_; go_big_quiet_on; simp only [Act.put, List.setIfInBounds_toArray, List.set_cons_zero, List.set_cons_succ])
                | (go_big_quiet_want; refine quiet_load_nums 22 _ rfl gq .u8 p2 22 _ rfl HLQ.out Tryd.underlying22 rfl HSQ.out ?_; go_big_quiet_on; simp only [Act.put, List.setIfInBounds_toArray, List.set_cons_zero, List.set_cons_succ])
                | (go_big_quiet_want; refine quiet_bin .eql 24 _ _ _ rfl (.agg (nums .u8 X).toArray) (.agg (nums .u8 Y).toArray) _ rfl rfl (guard_id _ _ _ _) HZ.out ?_; go_big_quiet_on; simp only [Act.put, List.setIfInBounds_toArray, List.set_cons_zero, List.set_cons_succ])
                | (go_big_quiet_want; refine quiet_bin .eql 4 _ _ _ rfl (.bool true) (.bool false) _ rfl rfl (fun _ => rfl) HZS.out ?_; go_big_quiet_on; simp only [Act.put, List.setIfInBounds_toArray, List.set_cons_zero, List.set_cons_succ])
                | go_big_quiet_step ((intro hs'; first
                    | (go_at_call 24; exact (HCT.out _ hs').mono fun e w' h => ⟨h.1, hs'.trans (h.2.mono hs'.size)⟩)
                    | rfl)))
              refine wpQuiet_nil ?_
              intro w9 hs9
              have HB9 := Lib.hid (HBW8.out.trans (hs9.mono HBW8.out.size))
              clear hs9
              go_wp2_with fail
              go_ret
              exact ⟨rfl, HB9.out⟩
            | false =>
              have HZ := Lib.hid (fun w => (eql_id16 X Y HXO.out HYO.out w).trans (by rw [hz]))
              have HZS := Lib.hid (show ∀ w, (binOp .eql 4 (.bool false) (.bool false)).run Tryd.prog w = .ok (.bool true) w from fun w => by kernel_rfl)
              clear hz hsm
              go_upto_region 13 with (fail)
              refine wp_region_class (fun w' => Below w8.heap.size w8 w') (by kernel_rfl) (by kernel_rfl) (Below.refl _ _).drew ?_
              repeat (first
                | go_big_quiet_skip
                | (go_big_quiet_want; refine quiet_bin .sub 3 _ _ _ rfl (.int .i64 (t : Int)) (.int .i64 1) _ rfl rfl (fun _ => rfl) HSU.out ?_; go_big_quiet_on; simp only [Act.put, List.setIfInBounds_toArray, List.set_cons_zero, List.set_cons_succ])
                | (go_big_quiet_want; refine quiet_indexAt 29 _ _ rfl (.slice (some ⟨b3, o3, none⟩) t c3) (.int .i64 ((t - 1 : Nat) : Int)) _ rfl rfl HIX3.out ?_; go_big_quiet_on; simp only [Act.put, List.setIfInBounds_toArray, List.set_cons_zero, List.set_cons_succ])
                | (go_big_quiet_want; refine quiet_indexAt 29 _ _ rfl (.slice (some ⟨b7, o7, none⟩) t c7) (.int .i64 ((t - 1 : Nat) : Int)) _ rfl rfl HIX7.out ?_; go_big_quiet_on; simp only [Act.put, List.setIfInBounds_toArray, List.set_cons_zero, List.set_cons_succ])
                | (go_big_quiet_want; refine quiet_load_row 24 _ rfl b3 (o3 + (t - 1) * 32) (nums .u8 X) _ rfl HR3.out Tryd.underlying24 rfl HSX.out ?_; go_big_quiet_on; simp only [Act.put, List.setIfInBounds_toArray, List.set_cons_zero, List.set_cons_succ])
                | (go_big_quiet_want; refine quiet_load_row 24 _ rfl b7 (o7 + (t - 1) * 32) (nums .u8 Y) _ rfl HR7.out Tryd.underlying24 rfl HSY.out ?_; go_big_quiet_on; simp only [Act.put, List.setIfInBounds_toArray, List.set_cons_zero, List.set_cons_succ])
                | (go_big_quiet_want; refine quiet_load_nums 22 _ rfl gp .u8 p 22 _ rfl HLP.out Tryd.underlying22 rfl HSP.out ?_; go_big_quiet_on; simp only [Act.put, List.setIfInBounds_toArray, List.set_cons_zero, List.set_cons_succ])
                | (go_big_quiet_want; refine quiet_load_nums 22 _ rfl gq .u8 p2 22 _ rfl HLQ.out Tryd.underlying22 rfl HSQ.out ?_; go_big_quiet_on; simp only [Act.put, List.setIfInBounds_toArray, List.set_cons_zero, List.set_cons_succ])
                | (go_big_quiet_want; refine quiet_bin .eql 24 _ _ _ rfl (.agg (nums .u8 X).toArray) (.agg (nums .u8 Y).toArray) _ rfl rfl (guard_id _ _ _ _) HZ.out ?_; go_big_quiet_on; simp only [Act.put, List.setIfInBounds_toArray, List.set_cons_zero, List.set_cons_succ])
                | (go_big_quiet_want; refine quiet_bin .eql 4 _ _ _ rfl (.bool false) (.bool false) _ rfl rfl (fun _ => rfl) HZS.out ?_; go_big_quiet_on; simp only [Act.put, List.setIfInBounds_toArray, List.set_cons_zero, List.set_cons_succ])
                | go_big_quiet_step ((intro hs'; first
                    | rfl)))
              refine wpQuiet_nil ?_
              intro w9 hs9
              have HB9 := Lib.hid (HBW8.out.trans (hs9.mono HBW8.out.size))
              clear hs9
              go_wp2_with fail
              go_ret
              exact ⟨rfl, HB9.out⟩
        · have g0 : (i == k) = false := by simp [hik]
          have g1 : decide (i = k) = false := decide_eq_false hik
          have hsm : decide (p = p2 ∧ i = k ∧ A = B) = false := decide_eq_false (fun h => hik h.2.1)
          clear hpp hik
          go_wp2_with (first
            | (refine wpList_load_nums rfl 22 _ rfl gp .u8 p 22 _ rfl HP6.out Tryd.underlying22 rfl HSP.out ?_)
            | (refine wpList_load_nums rfl 22 _ rfl gq .u8 p2 22 _ rfl HQ6.out Tryd.underlying22 rfl HSQ.out ?_)
            | (refine wpList_bin rfl .eql 22 _ _ _ rfl (.agg (nums .u8 p).toArray) (.agg (nums .u8 p2).toArray) _ rfl rfl (guard_arr _ _ _ _) HEP.out ?_))
          obtain ⟨w8, hw8⟩ : ∃ x, x = w6 := ⟨_, rfl⟩
          have HD8 := Lib.hid (show Below w6.heap.size w6 w8 by rw [hw8]; exact Below.refl _ _)
          rw [← hw8]
          clear hw8
          obtain ⟨b3, o3, rfl, hl3, hr3⟩ := last_row (HI3.out.below HD8.out) HXN.out t0 HXE.out
          obtain ⟨b7, o7, rfl, hl7, hr7⟩ := last_row (HI7.out.below HD8.out) HYN.out t0 HYE.out
          have HR3 := Lib.hid (fun (w' : World) (b : Below w8.heap.size w8 w') => rangeAt_belowI hr3 b hl3)
          have HR7 := Lib.hid (fun (w' : World) (b : Below w8.heap.size w8 w') => rangeAt_belowI hr7 b hl7)
          have HIX3 := Lib.hid (index_id b3 o3 t c3 (t - 1) (by omega))
          have HIX7 := Lib.hid (index_id b7 o7 t c7 (t - 1) (by omega))
          have HLP := Lib.hid (fun (w' : World) (b : Below w8.heap.size w8 w') => Cells.below (HP6.out.below HD8.out) b)
          have HLQ := Lib.hid (fun (w' : World) (b : Below w8.heap.size w8 w') => Cells.below (HQ6.out.below HD8.out) b)
          have HSU := Lib.hid (sub_one t t0 t12)
          have HSX := Lib.hid (show (Tryd.prog.info? 24).map (·.size) = some (nums .u8 X).length by rw [nums_len, HXO.out.1]; exact Tryd.sizeI)
          have HSY := Lib.hid (show (Tryd.prog.info? 24).map (·.size) = some (nums .u8 Y).length by rw [nums_len, HYO.out.1]; exact Tryd.sizeI)
          have HW8 := Lib.hid (HB6.out.trans (HD8.out.mono HB6.out.size))
          have HBW8 := Lib.hid (HBW6.out.trans (HD8.out.mono HBW6.out.size))
          clear hl3 hr3 hl7 hr7
          obtain ⟨z, hz⟩ : ∃ z, (X == Y) = z := ⟨_, rfl⟩
          cases z with
          | true =>
            have HZ := Lib.hid (fun w => (eql_id16 X Y HXO.out HYO.out w).trans (by rw [hz]))
            have HZS := Lib.hid (show ∀ w, (binOp .eql 4 (.bool true) (.bool false)).run Tryd.prog w = .ok (.bool false) w from fun w => by kernel_rfl)
            have HCT := Lib.hid (fun w' (b : Below w8.heap.size w8 w') => show Calls Tryd.prog 24 #[.agg (nums .u8 p).toArray, .int .i64 i, .slice ao t ca, .agg (nums .u8 p2).toArray, .int .i64 k, .slice bo t cb] w' fun r w'' => r = .returned (.bool true) ∧ Below w'.heap.size w' w'' from
              (HCL.out w' (HW8.out.trans (b.mono HW8.out.size))).mono fun r w'' ⟨⟨z, hr, hc⟩, hb⟩ => by
                cases z with
                | false =>
                  have h := HSD.out (hc rfl)
                  rw [hz, hsm] at h
                  cases h
                | true => exact ⟨hr, hb⟩)
            clear hz hsm
            go_upto_region 13 with (fail)
            refine wp_region_class (fun w' => Below w8.heap.size w8 w') (by kernel_rfl) (by kernel_rfl) (Below.refl _ _).drew ?_
            repeat (first
              | go_big_quiet_skip
              | (go_big_quiet_want; refine quiet_bin .sub 3 _ _ _ rfl (.int .i64 (t : Int)) (.int .i64 1) _ rfl rfl (fun _ => rfl) HSU.out ?_; go_big_quiet_on; simp only [Act.put, List.setIfInBounds_toArray, List.set_cons_zero, List.set_cons_succ])
              | (go_big_quiet_want; refine quiet_indexAt 29 _ _ rfl (.slice (some ⟨b3, o3, none⟩) t c3) (.int .i64 ((t - 1 : Nat) : Int)) _ rfl rfl HIX3.out ?_; go_big_quiet_on; simp only [Act.put, List.setIfInBounds_toArray, List.set_cons_zero, List.set_cons_succ])
              | (go_big_quiet_want; refine quiet_indexAt 29 _ _ rfl (.slice (some ⟨b7, o7, none⟩) t c7) (.int .i64 ((t - 1 : Nat) : Int)) _ rfl rfl HIX7.out ?_; go_big_quiet_on; simp only [Act.put, List.setIfInBounds_toArray, List.set_cons_zero, List.set_cons_succ])
              | (go_big_quiet_want; refine quiet_load_row 24 _ rfl b3 (o3 + (t - 1) * 32) (nums .u8 X) _ rfl HR3.out Tryd.underlying24 rfl HSX.out ?_; go_big_quiet_on; simp only [Act.put, List.setIfInBounds_toArray, List.set_cons_zero, List.set_cons_succ])
              | (go_big_quiet_want; refine quiet_load_row 24 _ rfl b7 (o7 + (t - 1) * 32) (nums .u8 Y) _ rfl HR7.out Tryd.underlying24 rfl HSY.out ?_; go_big_quiet_on; simp only [Act.put, List.setIfInBounds_toArray, List.set_cons_zero, List.set_cons_succ])
              | (go_big_quiet_want; refine quiet_load_nums 22 _ rfl gp .u8 p 22 _ rfl HLP.out Tryd.underlying22 rfl HSP.out ?_; go_big_quiet_on; simp only [Act.put, List.setIfInBounds_toArray, List.set_cons_zero, List.set_cons_succ])
              | (go_big_quiet_want; refine quiet_load_nums 22 _ rfl gq .u8 p2 22 _ rfl HLQ.out Tryd.underlying22 rfl HSQ.out ?_; go_big_quiet_on; simp only [Act.put, List.setIfInBounds_toArray, List.set_cons_zero, List.set_cons_succ])
              | (go_big_quiet_want; refine quiet_bin .eql 24 _ _ _ rfl (.agg (nums .u8 X).toArray) (.agg (nums .u8 Y).toArray) _ rfl rfl (guard_id _ _ _ _) HZ.out ?_; go_big_quiet_on; simp only [Act.put, List.setIfInBounds_toArray, List.set_cons_zero, List.set_cons_succ])
              | (go_big_quiet_want; refine quiet_bin .eql 4 _ _ _ rfl (.bool true) (.bool false) _ rfl rfl (fun _ => rfl) HZS.out ?_; go_big_quiet_on; simp only [Act.put, List.setIfInBounds_toArray, List.set_cons_zero, List.set_cons_succ])
              | go_big_quiet_step ((intro hs'; first
                  | (go_at_call 24; exact (HCT.out _ hs').mono fun e w' h => ⟨h.1, hs'.trans (h.2.mono hs'.size)⟩)
                  | rfl)))
            refine wpQuiet_nil ?_
            intro w9 hs9
            have HB9 := Lib.hid (HBW8.out.trans (hs9.mono HBW8.out.size))
            clear hs9
            go_wp2_with fail
            go_ret
            exact ⟨rfl, HB9.out⟩
          | false =>
            have HZ := Lib.hid (fun w => (eql_id16 X Y HXO.out HYO.out w).trans (by rw [hz]))
            have HZS := Lib.hid (show ∀ w, (binOp .eql 4 (.bool false) (.bool false)).run Tryd.prog w = .ok (.bool true) w from fun w => by kernel_rfl)
            clear hz hsm
            go_upto_region 13 with (fail)
            refine wp_region_class (fun w' => Below w8.heap.size w8 w') (by kernel_rfl) (by kernel_rfl) (Below.refl _ _).drew ?_
            repeat (first
              | go_big_quiet_skip
              | (go_big_quiet_want; refine quiet_bin .sub 3 _ _ _ rfl (.int .i64 (t : Int)) (.int .i64 1) _ rfl rfl (fun _ => rfl) HSU.out ?_; go_big_quiet_on; simp only [Act.put, List.setIfInBounds_toArray, List.set_cons_zero, List.set_cons_succ])
              | (go_big_quiet_want; refine quiet_indexAt 29 _ _ rfl (.slice (some ⟨b3, o3, none⟩) t c3) (.int .i64 ((t - 1 : Nat) : Int)) _ rfl rfl HIX3.out ?_; go_big_quiet_on; simp only [Act.put, List.setIfInBounds_toArray, List.set_cons_zero, List.set_cons_succ])
              | (go_big_quiet_want; refine quiet_indexAt 29 _ _ rfl (.slice (some ⟨b7, o7, none⟩) t c7) (.int .i64 ((t - 1 : Nat) : Int)) _ rfl rfl HIX7.out ?_; go_big_quiet_on; simp only [Act.put, List.setIfInBounds_toArray, List.set_cons_zero, List.set_cons_succ])
              | (go_big_quiet_want; refine quiet_load_row 24 _ rfl b3 (o3 + (t - 1) * 32) (nums .u8 X) _ rfl HR3.out Tryd.underlying24 rfl HSX.out ?_; go_big_quiet_on; simp only [Act.put, List.setIfInBounds_toArray, List.set_cons_zero, List.set_cons_succ])
              | (go_big_quiet_want; refine quiet_load_row 24 _ rfl b7 (o7 + (t - 1) * 32) (nums .u8 Y) _ rfl HR7.out Tryd.underlying24 rfl HSY.out ?_; go_big_quiet_on; simp only [Act.put, List.setIfInBounds_toArray, List.set_cons_zero, List.set_cons_succ])
              | (go_big_quiet_want; refine quiet_load_nums 22 _ rfl gp .u8 p 22 _ rfl HLP.out Tryd.underlying22 rfl HSP.out ?_; go_big_quiet_on; simp only [Act.put, List.setIfInBounds_toArray, List.set_cons_zero, List.set_cons_succ])
              | (go_big_quiet_want; refine quiet_load_nums 22 _ rfl gq .u8 p2 22 _ rfl HLQ.out Tryd.underlying22 rfl HSQ.out ?_; go_big_quiet_on; simp only [Act.put, List.setIfInBounds_toArray, List.set_cons_zero, List.set_cons_succ])
              | (go_big_quiet_want; refine quiet_bin .eql 24 _ _ _ rfl (.agg (nums .u8 X).toArray) (.agg (nums .u8 Y).toArray) _ rfl rfl (guard_id _ _ _ _) HZ.out ?_; go_big_quiet_on; simp only [Act.put, List.setIfInBounds_toArray, List.set_cons_zero, List.set_cons_succ])
              | (go_big_quiet_want; refine quiet_bin .eql 4 _ _ _ rfl (.bool false) (.bool false) _ rfl rfl (fun _ => rfl) HZS.out ?_; go_big_quiet_on; simp only [Act.put, List.setIfInBounds_toArray, List.set_cons_zero, List.set_cons_succ])
              | go_big_quiet_step ((intro hs'; first
                  | rfl)))
            refine wpQuiet_nil ?_
            intro w9 hs9
            have HB9 := Lib.hid (HBW8.out.trans (hs9.mono HBW8.out.size))
            clear hs9
            go_wp2_with fail
            go_ret
            exact ⟨rfl, HB9.out⟩
end Go.Proofs.YtpfhlhcnmeodbaaDoor.chainOne
namespace Go.Proofs.YtpfhlhcnmeodbaaDoor.chainOne
open Go.ChangeShapes Go.WideShapes Go.ChangeAt Go.RowKit
open Go.ChangeMaps (open_string shut_string)
set_option linter.unusedVariables false
theorem laid_met (os : Os) : laidMet Tryd.prog Rows.chainOneRow.laid ((laidWorld os).forCall (fun _ _ => 0) ⟨#[], #[.agg (nums .u8 zeroI).toArray, .int .i64 0, .slice none 0 0, .agg (nums .u8 zeroI).toArray, .int .i64 0, .slice none 0 0], []⟩).memory :=
  laidMet_of_run' 8 (by kernel_rfl) (by kernel_rfl)
theorem reads (os : Os) {H : Type} (enc : TypeId × Value → H) : ∃ x, DataW.whole enc Tryd.prog ((laidWorld os).forCall (fun _ _ => 0) ⟨#[], #[.agg (nums .u8 zeroI).toArray, .int .i64 0, .slice none 0 0, .agg (nums .u8 zeroI).toArray, .int .i64 0, .slice none 0 0], []⟩).memory Tryd.f5.params.toList Rows.chainOneSpec.vars false (#[.agg (nums .u8 zeroI).toArray, .int .i64 0, .slice none 0 0, .agg (nums .u8 zeroI).toArray, .int .i64 0, .slice none 0 0] : Array Value).toList 8 = some x :=
  ⟨([.agg [.lit (.int .u8 0), .lit (.int .u8 0), .lit (.int .u8 0), .lit (.int .u8 0), .lit (.int .u8 0), .lit (.int .u8 0), .lit (.int .u8 0), .lit (.int .u8 0), .lit (.int .u8 0), .lit (.int .u8 0), .lit (.int .u8 0), .lit (.int .u8 0), .lit (.int .u8 0), .lit (.int .u8 0), .lit (.int .u8 0), .lit (.int .u8 0), .lit (.int .u8 0), .lit (.int .u8 0), .lit (.int .u8 0), .lit (.int .u8 0), .lit (.int .u8 0), .lit (.int .u8 0), .lit (.int .u8 0), .lit (.int .u8 0), .lit (.int .u8 0), .lit (.int .u8 0), .lit (.int .u8 0), .lit (.int .u8 0), .lit (.int .u8 0), .lit (.int .u8 0), .lit (.int .u8 0), .lit (.int .u8 0)], .lit (.int .i64 0), .nil, .agg [.lit (.int .u8 0), .lit (.int .u8 0), .lit (.int .u8 0), .lit (.int .u8 0), .lit (.int .u8 0), .lit (.int .u8 0), .lit (.int .u8 0), .lit (.int .u8 0), .lit (.int .u8 0), .lit (.int .u8 0), .lit (.int .u8 0), .lit (.int .u8 0), .lit (.int .u8 0), .lit (.int .u8 0), .lit (.int .u8 0), .lit (.int .u8 0), .lit (.int .u8 0), .lit (.int .u8 0), .lit (.int .u8 0), .lit (.int .u8 0), .lit (.int .u8 0), .lit (.int .u8 0), .lit (.int .u8 0), .lit (.int .u8 0), .lit (.int .u8 0), .lit (.int .u8 0), .lit (.int .u8 0), .lit (.int .u8 0), .lit (.int .u8 0), .lit (.int .u8 0), .lit (.int .u8 0), .lit (.int .u8 0)], .lit (.int .i64 0), .nil], [], []), by kernel_rfl⟩
set_option maxRecDepth 100000 in
theorem lifted (os : Os) (started : os.Started) (H : Type) (enc : TypeId × Value → H) (F : Stop.Interp) :
    ReturnsInHanded {} Tryd.checked os 5 .any ((OpenSpec.ofChange Rows.chainOneSpec).preRow enc Tryd.prog Tryd.f5 Rows.chainOneRow.domain false Rows.chainOneRow.laid) (((OpenSpec.ofChange Rows.chainOneSpec).at F).post enc Tryd.prog Tryd.f5 false true false false) := by
  obtain ⟨x, hx⟩ := reads os enc
  refine returnsInHanded_of_row (C := Tryd.checked) (s := OpenSpec.ofChange Rows.chainOneSpec) law_own started (by kernel_rfl) Tryd.func5
    (witness_row_at (enc := enc) (C := Tryd.checked) false (laidWorld os) #[.agg (nums .u8 zeroI).toArray, .int .i64 0, .slice none 0 0, .agg (nums .u8 zeroI).toArray, .int .i64 0, .slice none 0 0] rfl (by kernel_rfl) (by kernel_rfl) (by kernel_rfl)
      (OpenSpec.preRow_of_cond 8 hx rfl (fun k hk => by cases hk) (by kernel_rfl) (laid_met os))) ?_
  intro W base args ds gs before hval0 hW hcnd _ hsz0 hL _ _
  have hk : KAt W := k_laid hL
  have hsz : (DataW.weightsEach Tryd.prog (Tryd.f5.params.toList ++ (OpenSpec.ofChange Rows.chainOneSpec).bare.plain.varTypes Tryd.prog) (ds ++ gs)).all (· ≤ reachBytes) = true := hsz0
  have hval : ∀ (j : Nat) t v, Tryd.f5.params[j]? = some t → args[j]? = some v → Value.okWide Tryd.prog W .any base t v := hval0
  have hW' := hW
  obtain ⟨p, q, hA0, hV, rfl, hfz, hnd⟩ := hW
  have hA : DataW.TrodAll enc Tryd.prog W 0 (fun _ => true) true Tryd.f5.params.toList args.toList ds p := hA0
  rw [Tryd.params5] at hA hval hsz
  obtain ⟨v0, vs0, d0, ds0, p0, q0, hargs, rfl, rfl, h0, r0⟩ := trodAll_cons hA
  obtain ⟨v1, vs1, d1, ds1, p1, q1, rfl, rfl, rfl, h1, r1⟩ := trodAll_cons r0
  obtain ⟨v2, vs2, d2, ds2, p2, q2, rfl, rfl, rfl, h2, r2⟩ := trodAll_cons r1
  obtain ⟨v3, vs3, d3, ds3, p3, q3, rfl, rfl, rfl, h3, r3⟩ := trodAll_cons r2
  obtain ⟨v4, vs4, d4, ds4, p4, q4, rfl, rfl, rfl, h4, r4⟩ := trodAll_cons r3
  obtain ⟨v5, vs5, d5, ds5, p5, q5, rfl, rfl, rfl, h5, r5⟩ := trodAll_cons r4
  obtain ⟨rfl, rfl, rfl⟩ := trodAll_nil r5
  obtain rfl : args = #[v0, v1, v2, v3, v4, v5] := by cases args; simp_all
  obtain ⟨rfl, rfl⟩ := trodVars_none hV
  have k0 := h0
  have lt0 : ∀ x ∈ p0, x.block < W.heap.size := by obtain ⟨m, hm⟩ := k0; exact DataW.trod_lt m _ _ _ hm
  have z0 : ∀ n ∈ DataW.weights Tryd.prog 22 d0, n ≤ 140737488351232 := fun n hn => of_decide_eq_true (List.all_eq_true.1 hsz n (DataW.weights_mem_each (j := 0) (t := 22) rfl rfl n hn))
  obtain ⟨l0, rfl, n0⟩ := open_name Tryd.underlying22 Tryd.underlying5 (by kernel_rfl) (by kernel_rfl) (hval 0 22 v0 rfl rfl) h0
  obtain ⟨a1, rfl, rfl, rfl, w1⟩ := open_int Tryd.underlying3 (hval 1 3 v1 rfl rfl) h1
  have k2 := h2
  have lt2 : ∀ x ∈ p2, x.block < W.heap.size := by obtain ⟨m, hm⟩ := k2; exact DataW.trod_lt m _ _ _ hm
  have z2 : ∀ n ∈ DataW.weights Tryd.prog 23 d2, n ≤ 140737488351232 := fun n hn => of_decide_eq_true (List.all_eq_true.1 hsz n (DataW.weights_mem_each (j := 2) (t := 23) rfl rfl n hn))
  obtain ⟨ao2, l2, c2, rfl, s2, n2, t2⟩ := open_ents (hval 2 23 v2 rfl rfl) h2 z2
  have k3 := h3
  have lt3 : ∀ x ∈ p3, x.block < W.heap.size := by obtain ⟨m, hm⟩ := k3; exact DataW.trod_lt m _ _ _ hm
  have z3 : ∀ n ∈ DataW.weights Tryd.prog 22 d3, n ≤ 140737488351232 := fun n hn => of_decide_eq_true (List.all_eq_true.1 hsz n (DataW.weights_mem_each (j := 3) (t := 22) rfl rfl n hn))
  obtain ⟨l3, rfl, n3⟩ := open_name Tryd.underlying22 Tryd.underlying5 (by kernel_rfl) (by kernel_rfl) (hval 3 22 v3 rfl rfl) h3
  obtain ⟨a4, rfl, rfl, rfl, w4⟩ := open_int Tryd.underlying3 (hval 4 3 v4 rfl rfl) h4
  have k5 := h5
  have lt5 : ∀ x ∈ p5, x.block < W.heap.size := by obtain ⟨m, hm⟩ := k5; exact DataW.trod_lt m _ _ _ hm
  have z5 : ∀ n ∈ DataW.weights Tryd.prog 23 d5, n ≤ 140737488351232 := fun n hn => of_decide_eq_true (List.all_eq_true.1 hsz n (DataW.weights_mem_each (j := 5) (t := 23) rfl rfl n hn))
  obtain ⟨ao5, l5, c5, rfl, s5, n5, t5⟩ := open_ents (hval 5 23 v5 rfl rfl) h5 z5
  clear hA0 hval0
  refine (walk W hk l0 n0 a1 w1 ao2 l2 c2 s2 n2 t2 l3 n3 a4 w4 ao5 l5 c5 s5 n5 t5).mono fun e W' ⟨he, bel⟩ => ?_
  subst he
  exact ⟨_, rfl, _, _, _, [], _, [], hW', trodAll_mk1 (shut_bool Tryd.underlying4 _), (trodAll_cons_mk (Below.trod law_laidOut (by kernel_rfl) (of_decide_eq_true (by kernel_rfl)) k0 bel lt0) (trodAll_cons_mk (shut_int Tryd.underlying3 w1) (trodAll_cons_mk (Below.trod law_laidOut (by kernel_rfl) (of_decide_eq_true (by kernel_rfl)) k2 bel lt2) (trodAll_cons_mk (Below.trod law_laidOut (by kernel_rfl) (of_decide_eq_true (by kernel_rfl)) k3 bel lt3) (trodAll_cons_mk (shut_int Tryd.underlying3 w4) (trodAll_cons_mk (Below.trod law_laidOut (by kernel_rfl) (of_decide_eq_true (by kernel_rfl)) k5 bel lt5) trodAll_mk0)))))), rfl, bel.frame _, fun h => by cases h⟩
theorem said : Rows.ChainOneSaid :=
  OpenClaim.holds_of_cond 5 Tryd.f5 rfl rfl rfl rfl rfl rfl rfl ⟨rfl, rfl, rfl, rfl, rfl⟩ rfl rfl rfl rfl rfl (by kernel_rfl) Tryd.func5 (by kernel_rfl)
    (of_decide_eq_true (by kernel_rfl)) (by unfold Func.isWrapper; first | (rw [if_pos (by decide +kernel)]; kernel_rfl) | (rw [if_neg (by decide +kernel)]; exact ⟨rfl, rfl⟩))
    (fun os started H enc _ F => by rw [OpenClaim.pre_eq_preRow]; exact lifted os started H enc F)
theorem plain (f : FuncId) (fn : Func) (hf : Tryd.pinned.checked.prog.funcNamed "tribunal/tribunallaw16.ChainOne" = some f) (hfn : Tryd.pinned.checked.prog.funcs[f]? = some fn) :
    false = Tryd.pinned.checked.prog.looks [] ∧ ∀ (j : Nat) t, fn.params[j]? = some t → Tryd.pinned.checked.prog.wantsStandIn t = false := by
  obtain rfl : f = 5 := Option.some.inj ((show Tryd.prog.funcNamed "tribunal/tribunallaw16.ChainOne" = some 5 by kernel_rfl).symm.trans hf) |>.symm
  obtain rfl : fn = Tryd.f5 := (Option.some.inj (Tryd.func5.symm.trans hfn)).symm
  refine ⟨by kernel_rfl, fun j t ht => ?_⟩
  have hall : Tryd.f5.params.toList.all (fun t => !Tryd.prog.wantsStandIn t) = true := by kernel_rfl
  have hm : t ∈ Tryd.f5.params.toList := Array.mem_toList_iff.2 (Array.mem_of_getElem? ht)
  have h0 := List.all_eq_true.1 hall t hm
  have h1 : Tryd.prog.wantsStandIn t = false := by simpa using h0
  exact h1
theorem proved : Rows.ChainOneCardSaid :=
  Claim7.holds_tied_plain_at .later [] _ _ _ _ said (fun _ h => by cases h) (by kernel_rfl) (fun _ h => by cases h) chainOne_row_tie rfl ⟨rfl, rfl⟩ (by kernel_rfl) rfl plain (by kernel_rfl)
#print axioms proved
end Go.Proofs.YtpfhlhcnmeodbaaDoor.chainOne
