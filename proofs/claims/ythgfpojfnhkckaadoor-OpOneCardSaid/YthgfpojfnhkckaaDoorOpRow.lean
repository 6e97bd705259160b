/-
  Rows of operations; the document's SameAll.
-/
import Derived.Test.YthgfpojfnhkckaaDoorOpSame
import Derived.Test.YthgfpojfnhkckaaDoorFlat
namespace Go.Proofs.YthgfpojfnhkckaaDoor
open Go.RowKit Go.BigFrame

/-- An operation lies here. -/
def OpAt (b o : Nat) (x : OpN) (w : World) : Prop := ∃ pa pc, w.rangeAt b o (opL x pa pc) ∧ IAt pa x.preds w
def OpsAt (ao : Option Addr) (L : List OpN) (w : World) : Prop :=
  L = [] ∨ ∃ b o, ao = some ⟨b, o, none⟩ ∧ b < w.heap.size ∧ ∀ (i : Nat) (x : OpN), L[i]? = some x → OpAt b (o + i * 38) x w
theorem OpAt.below {b o : Nat} {x : OpN} {w w' : World} (h : OpAt b o x w) (hb : Below w.heap.size w w') (hlt : b < w.heap.size) : OpAt b o x w' := by
  obtain ⟨pa, pc, h1, h2⟩ := h
  exact ⟨pa, pc, rangeAt_belowI h1 hb hlt, h2.below hb⟩
theorem OpsAt.below {ao : Option Addr} {L : List OpN} {w w' : World} (h : OpsAt ao L w) (hb : Below w.heap.size w w') : OpsAt ao L w' := by
  rcases h with h | ⟨b, o, h1, h2, h3⟩
  · exact .inl h
  · exact .inr ⟨b, o, h1, Nat.lt_of_lt_of_le h2 hb.size, fun i x hx => (h3 i x hx).below hb h2⟩
theorem OpsAt.get {ao : Option Addr} {L : List OpN} {w : World} (h : OpsAt ao L w) {i : Nat} {x : OpN} (hx : L[i]? = some x) : ∃ b o, ao = some ⟨b, o, none⟩ ∧ b < w.heap.size ∧ OpAt b (o + i * 38) x w := by
  rcases h with rfl | ⟨b, o, h1, h2, h3⟩
  · cases hx
  · exact ⟨b, o, h1, h2, h3 i x hx⟩
/-- A row of operations of the call's own. -/
def OwnO (B : Nat) (e : TypeId) (v : Value) (L : List OpN) (w : World) : Prop :=
  ∃ C : List (List Value), w.ownsRow B e 38 v L.length C.flatten ∧ Wide 38 C ∧ C.length = L.length ∧ ∀ (i : Nat) (x : OpN), L[i]? = some x → ∃ pa pc, C[i]? = some (opL x pa pc) ∧ IAt pa x.preds w ∧ ∀ a, pa = some a → x.preds ≠ [] → v.ownBlock ≠ some a.block
theorem OwnO.nil (B : Nat) (e : TypeId) (w : World) : OwnO B e (.slice none 0 0) [] w := ⟨[], World.ownsRow_nil _ _ _ _, Wide.nil _, rfl, fun i x hx => by cases hx⟩
theorem OwnO.form {B : Nat} {e : TypeId} {v : Value} {L : List OpN} {w : World} (h : OwnO B e v L w) : ∃ ao cap, v = .slice ao L.length cap := by
  obtain ⟨C, h, _⟩ := h
  rcases h.2 with ⟨hv, h0⟩ | ⟨g, cap, cur, hv, _⟩
  · exact ⟨none, 0, by rw [hv, h0]⟩
  · exact ⟨some ⟨g, 0, none⟩, cap, hv⟩
theorem OwnO.below {B : Nat} {e : TypeId} {v : Value} {L : List OpN} {w w' : World} (h : OwnO B e v L w) (k : Below w.heap.size w w') : OwnO B e v L w' := by
  obtain ⟨C, h1, h2, h3, h4⟩ := h
  refine ⟨C, World.ownsRow.kept (row := none) h1 ⟨k.os, k.tape, k.output, k.size, fun i hi _ => k.block i hi⟩ (Classical.em _), h2, h3, fun i x hx => ?_⟩
  obtain ⟨pa, pc, q1, q2, q3⟩ := h4 i x hx
  exact ⟨pa, pc, q1, q2.below k, q3⟩
theorem OwnO.at {B : Nat} {e : TypeId} {ao : Option Addr} {n c : Nat} {L : List OpN} {w : World} (h : OwnO B e (.slice ao n c) L w) : OpsAt ao L w := by
  obtain ⟨C, h1, h2, h3, h4⟩ := h
  by_cases h0 : L = []
  · exact .inl h0
  · rcases h1.2 with ⟨hv, hz⟩ | ⟨g, cap, cur, hv, hB, hcell, _⟩
    · exact absurd (List.length_eq_zero_iff.1 hz) h0
    · obtain rfl : ao = some ⟨g, 0, none⟩ := by injection hv
      refine .inr ⟨g, 0, rfl, lt_of_block hcell, fun i x hx => ?_⟩
      obtain ⟨pa, pc, q1, q2, _⟩ := h4 i x hx
      refine ⟨pa, pc, fun j v hj => ?_, q2⟩
      have hi : i < C.length := (List.getElem?_eq_some_iff.1 q1).1
      have hcd : C.getD i [] = opL x pa pc := by rw [List.getD_eq_getElem?_getD, q1]; rfl
      have hj38 : j < 38 := by
        have h5 := (List.getElem?_eq_some_iff.1 hj).1
        have h6 := h2.getD hi
        rw [hcd] at h6
        omega
      have hc := World.ownsRow.cells h1 (g := g) rfl (38 * i + j) v
      rw [flat_get h2 hi hj38, hcd, Addr.add_lit, Nat.zero_add] at hc
      rw [Nat.zero_add, Nat.mul_comm]
      exact hc hj
theorem IAt.grown {ao : Option Addr} {L : List (List Nat)} {w w' : World} {row : Option Nat} (h : IAt ao L w) (k : w.grownBy w' row) (hr : ∀ a, ao = Option.some a → L ≠ [] → row ≠ Option.some a.block) : IAt ao L w' := by
  rcases h with h | ⟨b, o, rfl, h2, h3⟩
  · exact .inl h
  · by_cases h0 : L = []
    · exact .inl h0
    · exact .inr ⟨b, o, rfl, Nat.lt_of_lt_of_le h2 k.size, fun i hi j v hv => (World.cell?_of_block (a := ⟨b, o + 32 * i + j, none⟩) (k.block b h2 (fun e => hr _ rfl h0 e.symm))).trans (h3 i hi j v hv)⟩
theorem IAt.lt {ao : Option Addr} {L : List (List Nat)} {w : World} (h : IAt ao L w) (h0 : L ≠ []) {a : Addr} (ha : ao = Option.some a) : a.block < w.heap.size := by
  rcases h with h | ⟨b, o, h1, h2, _⟩
  · exact absurd h h0
  · rw [h1] at ha
    cases ha
    exact h2
/-- One operation pushed onto a row of the call's own. -/
theorem wpList_append_op {P : Program} {w : World} {ops : Array Oper} {rest : List Oper} {o : Oper} {a : Act} {Q : Exit → Act → World → Prop} (hgd : o.guard = none) (s x : Operand) (t e : TypeId)
    (ho : o.op = .call { callee := .builtin .append, args := #[s, x], argTypes := #[t, t] })
    (B bytes : Nat) (z : Value) (hzs : z.cells.size = 38) (hby : bytes ≤ 1024) (ht : P.underlying t = some (.slice e)) (hinfo : (P.info? e).map (fun i => (i.zero, i.size, i.bytes)) = some (some z, 38, bytes))
    (v : Value) (L : List OpN) (y : OpN) (pa : Option Addr) (pc : Nat) (hy : y.d.ref.length = 32) (hpa : IAt pa y.preds w) (hne : ∀ a, pa = some a → y.preds ≠ [] → v.ownBlock ≠ some a.block) (ad : Addr) (c : Nat) (hs : a.eval s = v) (hown : OwnO B e v L w) (hx : a.eval x = .slice (some ad) 1 c)
    (hnews : ∀ j u, (opL y pa pc)[j]? = some u → w.cell? (ad.add j) = some u) (h63 : L.length ≤ 1000000) (hB : B ≤ w.heap.size)
    (h : ∀ v' w', Hid (OwnO B e v' (L ++ [y]) w') → Hid (Below B w w') → Hid (w.grownBy w' v.ownBlock) → wpList P ops Q rest (a.put o.dst v') w') : wpList P ops Q (o :: rest) a w := by
  obtain ⟨i, hi, hz0, hz1, hz2⟩ := info_parts hinfo
  obtain ⟨C, h1, h2, h3, h4⟩ := hown
  have hul : (opL y pa pc).length = 38 := opL_len hy
  refine wpList_append_own_at w hgd s x _ ho B e i z 38 bytes ht hi hz0 hz1 hz2 hzs (by decide) v L.length C.flatten hs h1 ad 1 c (opL y pa pc) hx (by rw [hul]) hnews (opL_one y pa pc) (by unfold maxLen; omega)
    (Nat.le_trans (Nat.mul_le_mul (show L.length + 1 ≤ 1000001 by omega) hby) (by decide)) hB ?_
  intro v' w' q1 q2 _ q3
  refine h v' w' ⟨C ++ [opL y pa pc], ?_, h2.snoc hul, by rw [List.length_append, List.length_append, h3]; rfl, fun j x' hj => ?_⟩ ((Below.refl B w).grown q2 hB (fun k hk => (World.ownsRow.lt h1 k hk).1)) q2
  · rw [List.length_append, List.flatten_append, List.flatten_cons, List.flatten_nil, List.append_nil]
    exact q1
  · have hold : ∀ (a : Addr) (M : List (List Nat)), IAt (some a) M w → M ≠ [] → v.ownBlock ≠ some a.block → v'.ownBlock ≠ some a.block := fun a M hM h0 hv e => by
      rcases q3 with q3 | q3
      · exact hv (q3 ▸ e)
      · rw [q3] at e
        have := hM.lt h0 rfl
        simp only [Option.some.injEq] at e
        omega
    by_cases hjl : j < L.length
    · rw [List.getElem?_append_left hjl] at hj
      obtain ⟨pa', pc', r1, r2, r3⟩ := h4 j x' hj
      refine ⟨pa', pc', by rw [List.getElem?_append_left (by omega)]; exact r1, r2.grown q2 r3, ?_⟩
      rintro a rfl h0
      exact hold a _ r2 h0 (r3 a rfl h0)
    · rw [List.getElem?_append_right (by omega)] at hj
      obtain rfl : j = L.length := by
        have := (List.getElem?_eq_some_iff.1 hj).1
        simp only [List.length_singleton] at this
        omega
      simp only [Nat.sub_self, List.getElem?_cons_zero, Option.some.injEq] at hj
      subst hj
      refine ⟨pa, pc, by rw [List.getElem?_append_right (by omega), h3]; simp, hpa.grown q2 hne, ?_⟩
      rintro a rfl h0
      exact hold a _ hpa h0 (hne a rfl h0)
end Go.Proofs.YthgfpojfnhkckaaDoor
