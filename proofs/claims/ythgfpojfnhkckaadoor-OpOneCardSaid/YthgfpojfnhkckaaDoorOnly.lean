/-
  Objects that live in memory of their own: what a call turns (Only), what it owns behind it (Turn); rows of values of one cell (RowV).
-/
import Derived.Test.YthgfpojfnhkckaaDoorRegion
import Derived.Laws.BytesString
import Derived.Deep.MidRow
namespace Go.Proofs.YthgfpojfnhkckaaDoor
open Go.RowKit

/-- Of what was there nothing has turned but blocks of O. -/
structure Only (O : Nat → Prop) (w w' : World) : Prop where
  os : w'.os = w.os
  tape : w'.tape = w.tape
  output : w'.output = w.output
  size : w.heap.size ≤ w'.heap.size
  block : ∀ k, k < w.heap.size → ¬ O k → w'.heap[k]? = w.heap[k]?
theorem Only.refl (O : Nat → Prop) (w : World) : Only O w w := ⟨rfl, rfl, rfl, Nat.le_refl _, fun _ _ _ => rfl⟩
theorem Only.below {O : Nat → Prop} {w w1 w2 : World} (h : Only O w w1) (k : Below w1.heap.size w1 w2) : Only O w w2 :=
  ⟨k.os.trans h.os, k.tape.trans h.tape, k.output.trans h.output, Nat.le_trans h.size k.size, fun i hi hO => (k.block i (Nat.lt_of_lt_of_le hi h.size)).trans (h.block i hi hO)⟩
theorem Only.of {O : Nat → Prop} {w w' : World} (h : Below w.heap.size w w') : Only O w w' := (Only.refl O w).below h
theorem Only.but {O : Nat → Prop} {b : Nat} {w w1 w2 : World} (h : Only O w w1) (k : But b w1 w2) (hb : O b ∨ w.heap.size ≤ b) : Only O w w2 :=
  ⟨k.os.trans h.os, k.tape.trans h.tape, k.output.trans h.output, Nat.le_trans h.size k.size, fun i hi hO => (k.block i (Nat.lt_of_lt_of_le hi h.size) (fun e => by
    subst e
    rcases hb with hb | hb
    · exact hO hb
    · omega)).trans (h.block i hi hO)⟩
theorem Only.grown {O : Nat → Prop} {row : Option Nat} {w w1 w2 : World} (h : Only O w w1) (k : w1.grownBy w2 row) (hr : ∀ b, row = some b → O b ∨ w.heap.size ≤ b) : Only O w w2 :=
  ⟨k.os.trans h.os, k.tape.trans h.tape, k.output.trans h.output, Nat.le_trans h.size k.size, fun i hi hO => (k.block i (Nat.lt_of_lt_of_le hi h.size) (fun e => by
    rcases hr i e.symm with hb | hb
    · exact hO hb
    · omega)).trans (h.block i hi hO)⟩
theorem Only.setCell {O : Nat → Prop} {w w1 : World} (h : Only O w w1) {b : Nat} (o : Nat) (v : Value) (hb : O b ∨ w.heap.size ≤ b) : Only O w (w1.setCell ⟨b, o, none⟩ v) := h.but ((But.refl b w1).setCell o v) hb
theorem Only.alloc {O : Nat → Prop} {w w1 : World} (h : Only O w w1) (o : Obj) : Only O w (w1.alloc o) := h.below ((Below.refl _ _).alloc (Nat.le_refl _) _)
theorem Only.trans {O O' : Nat → Prop} {w1 w2 w3 : World} (h : Only O w1 w2) (k : Only O' w2 w3) (ho : ∀ b, O' b → O b ∨ w1.heap.size ≤ b) : Only O w1 w3 :=
  ⟨k.os.trans h.os, k.tape.trans h.tape, k.output.trans h.output, Nat.le_trans h.size k.size, fun i hi hO => (k.block i (Nat.lt_of_lt_of_le hi h.size) (fun e => by
    rcases ho i e with hb | hb
    · exact hO hb
    · omega)).trans (h.block i hi hO)⟩
theorem Only.toBelow {O : Nat → Prop} {B : Nat} {w0 w w' : World} (h0 : Below B w0 w) (h : Only O w w') (hO : ∀ b, O b → B ≤ b) (hB : B ≤ w.heap.size) : Below B w0 w' :=
  h0.trans ⟨h.os, h.tape, h.output, h.size, fun k hk => h.block k (Nat.lt_of_lt_of_le hk hB) (fun e => by have := hO k e; omega)⟩
/-- A call turned O's blocks alone, and owns O' behind it. -/
structure Turn (O O' : Nat → Prop) (w w' : World) : Prop where
  only : Only O w w'
  own : ∀ b, O' b → O b ∨ w.heap.size ≤ b
theorem Turn.refl (O : Nat → Prop) (w : World) : Turn O O w w := ⟨Only.refl O w, fun _ h => .inl h⟩
theorem Turn.trans {O O' O'' : Nat → Prop} {w1 w2 w3 : World} (h : Turn O O' w1 w2) (k : Turn O' O'' w2 w3) : Turn O O'' w1 w3 :=
  ⟨h.only.trans k.only h.own, fun b hb => by
    rcases k.own b hb with h1 | h1
    · exact h.own b h1
    · exact .inr (Nat.le_trans h.only.size h1)⟩
theorem Turn.below {O O' : Nat → Prop} {w1 w2 w3 : World} (h : Turn O O' w1 w2) (k : Below w2.heap.size w2 w3) : Turn O O' w1 w3 := ⟨h.only.below k, h.own⟩
theorem Turn.of {O : Nat → Prop} {w w' : World} (k : Below w.heap.size w w') : Turn O O w w' := (Turn.refl O w).below k

theorem Cells.only {O : Nat → Prop} {b : Nat} {t : TypeId} {cs : Array Value} {w w' : World} (h : Cells b t cs w) (k : Only O w w') (hb : ¬ O b) : Cells b t cs w' := (k.block b h.lt hb).trans h
theorem NumsAt.only {O : Nat → Prop} {ao : Option Addr} {k : IntKind} {l : List Nat} {w w' : World} (h : NumsAt ao k l w) (ho : Only O w w') (hb : l ≠ [] → ∀ a, ao = some a → ¬ O a.block) : NumsAt ao k l w' := by
  by_cases hl : l = []
  · exact .inl hl
  rcases h with h | ⟨b, o, ha, hlt, hc⟩
  · exact .inl h
  · exact .inr ⟨b, o, ha, Nat.lt_of_lt_of_le hlt ho.size, fun j hj => (World.cell?_of_block (w := w) (a := ⟨b, o + j, none⟩) (ho.block b hlt (hb hl _ ha))).trans (hc j hj)⟩

/-! ### Rows of values of one cell -/
/-- A row of values of one cell, in a block of its own. -/
def RowV (e : TypeId) (v : Value) (S : List Value) (w : World) : Prop := w.ownsRow 0 e 1 v S.length S
theorem RowV.nil (e : TypeId) (w : World) : RowV e (.slice none 0 0) [] w := World.ownsRow_nil _ _ _ _
theorem RowV.form {e : TypeId} {v : Value} {S : List Value} {w : World} (h : RowV e v S w) : ∃ ao cap, v = .slice ao S.length cap := by
  rcases h.2 with ⟨h1, h2⟩ | ⟨g, cap, _, h1, _⟩
  · exact ⟨_, _, by rw [h1, h2]⟩
  · exact ⟨_, _, h1⟩
theorem RowV.formB {e : TypeId} {v : Value} {S : List Value} {w : World} (h : RowV e v S w) (h0 : 0 < S.length) : ∃ g cap, v = .slice (some ⟨g, 0, none⟩) S.length cap := by
  rcases h.2 with ⟨_, h2⟩ | ⟨g, cap, cur, h1, _⟩
  · omega
  · exact ⟨g, cap, h1⟩
theorem RowV.lt {e : TypeId} {v : Value} {S : List Value} {w : World} (h : RowV e v S w) {g : Nat} (hg : v.ownBlock = some g) : g < w.heap.size := (World.ownsRow.lt h g hg).2
theorem RowV.heap {e : TypeId} {v : Value} {S : List Value} {w : World} (h : RowV e v S w) {g : Nat} (hg : v.ownBlock = some g) : ∃ cur, w.heap[g]? = some (.cells cur e (0, 0)) := by
  rcases h.2 with ⟨h1, _⟩ | ⟨g', cap, cur, h1, _, h3, _⟩
  · rw [h1] at hg; cases hg
  · rw [h1] at hg
    obtain rfl : g' = g := by simpa [Value.ownBlock] using hg
    exact ⟨cur, h3⟩
/-- It lies in no block of another type. -/
theorem RowV.notCells {e t : TypeId} {v : Value} {S : List Value} {cs : Array Value} {w : World} {g : Nat} (h : RowV e v S w) (hc : Cells g t cs w) (hne : e ≠ t) : v.ownBlock ≠ some g := fun hg => by
  obtain ⟨cur, hh⟩ := h.heap hg
  rw [hc] at hh
  simp only [Option.some.injEq, Obj.cells.injEq] at hh
  exact hne hh.2.1.symm
theorem RowV.notRow {e t : TypeId} {v u : Value} {S T : List Value} {w : World} {g : Nat} (h : RowV e v S w) (hr : RowV t u T w) (hne : e ≠ t) (hg : v.ownBlock = some g) : u.ownBlock ≠ some g := fun hu => by
  obtain ⟨cur, h1⟩ := h.heap hg
  obtain ⟨cur', h2⟩ := hr.heap hu
  rw [h1] at h2
  simp only [Option.some.injEq, Obj.cells.injEq] at h2
  exact hne h2.2.1
theorem RowV.only {O : Nat → Prop} {e : TypeId} {v : Value} {S : List Value} {w w' : World} (h : RowV e v S w) (k : Only O w w') (hO : ∀ g, v.ownBlock = some g → ¬ O g) : RowV e v S w' := by
  refine ⟨h.1, ?_⟩
  rcases h.2 with h2 | ⟨g, cap, cur, h1, h2, h3, h4⟩
  · exact .inl h2
  · exact .inr ⟨g, cap, cur, h1, h2, (k.block g (lt_of_block h3) (hO g (by rw [h1]; rfl))).trans h3, h4⟩
theorem RowV.below {e : TypeId} {v : Value} {S : List Value} {w w' : World} (h : RowV e v S w) (k : Below w.heap.size w w') : RowV e v S w' := h.only (Only.of (O := fun _ => False) k) (fun _ _ => id)
theorem RowV.but {b : Nat} {e : TypeId} {v : Value} {S : List Value} {w w' : World} (h : RowV e v S w) (k : But b w w') (hb : v.ownBlock ≠ some b) : RowV e v S w' :=
  h.only ((Only.refl (fun x => x = b) w).but k (.inl rfl)) (fun g hg e => hb (by rw [hg, e]))
theorem RowV.grown {row : Option Nat} {e : TypeId} {v : Value} {S : List Value} {w w' : World} (h : RowV e v S w) (k : w.grownBy w' row) (hb : ∀ g, v.ownBlock = some g → row ≠ some g) : RowV e v S w' :=
  h.only ((Only.refl (fun x => row = some x) w).grown k (fun _ hb => .inl hb)) (fun g hg e => hb g hg e)
theorem RowV.get {g n c : Nat} {e : TypeId} {S : List Value} {w : World} (hn : n = S.length) (h : RowV e (.slice (some ⟨g, 0, none⟩) n c) S w) {j : Nat} {u : Value} (hj : S[j]? = some u) : w.cell? ⟨g, j, none⟩ = some u := by
  subst hn
  have hl := (List.getElem?_eq_some_iff.1 hj).1
  rw [World.ownsRow.cellAt h j (by omega), hj]
theorem RowV.frozen {g n c : Nat} {e : TypeId} {S : List Value} {w : World} (hn : n = S.length) (h : RowV e (.slice (some ⟨g, 0, none⟩) n c) S w) (j : Nat) : w.frozen? ⟨g, j, none⟩ = false := by
  subst hn
  exact World.ownsRow.frozenAt h j
theorem RowV.set {g n c : Nat} {e : TypeId} {S : List Value} {w : World} (hn : n = S.length) (h : RowV e (.slice (some ⟨g, 0, none⟩) n c) S w) (j : Nat) (u : Value) : RowV e (.slice (some ⟨g, 0, none⟩) n c) (S.set j u) (w.setCell ⟨g, j, none⟩ u) := by
  subst hn
  have h1 := (World.ownsRow.stored h j u).1
  unfold RowV
  rw [List.length_set]
  exact h1
/-- One value pushed. -/
theorem wpList_push_val {P : Program} {w : World} {ops : Array Oper} {rest : List Oper} {o : Oper} {a : Act} {Q : Exit → Act → World → Prop} (hgd : o.guard = none) (s x : Operand) (t e : TypeId)
    (ho : o.op = .call { callee := .builtin .append, args := #[s, x], argTypes := #[t, t] })
    (z : Value) (bytes : Nat) (hzs : z.cells.size = 1) (hby : bytes ≤ 1024) (ht : P.underlying t = some (.slice e)) (hinfo : (P.info? e).map (fun i => (i.zero, i.size, i.bytes)) = some (some z, 1, bytes))
    (v : Value) (S : List Value) (u : Value) (hu : u.oneCell' = true) (ad : Addr) (c : Nat) (hs : a.eval s = v) (hown : RowV e v S w) (hx : a.eval x = .slice (some ad) 1 c) (hnews : w.cell? (ad.add 0) = some u)
    (h63 : S.length ≤ 1000000)
    (h : ∀ v' w', Hid (RowV e v' (S ++ [u]) w') → Hid (w.grownBy w' v.ownBlock) → Hid (v'.ownBlock = v.ownBlock ∨ v'.ownBlock = some w.heap.size) → wpList P ops Q rest (a.put o.dst v') w') : wpList P ops Q (o :: rest) a w := by
  obtain ⟨i, hi, hz0, hz1, hz2⟩ := info_parts hinfo
  refine wpList_append_own_at w hgd s x _ ho 0 e i z 1 bytes ht hi hz0 hz1 hz2 hzs (by decide) v S.length S hs hown ad 1 c [u] hx rfl ?_ ?_ (by unfold maxLen; omega) ?_ (Nat.zero_le _) ?_
  · intro j q hj
    have hj0 : j = 0 := by
      have := (List.getElem?_eq_some_iff.1 hj).1
      simpa using this
    subst hj0
    obtain rfl : u = q := by simpa using hj
    exact hnews
  · intro q hq
    obtain rfl := List.mem_singleton.1 hq
    exact hu
  · refine Nat.le_trans (Nat.mul_le_mul (show S.length + 1 ≤ 1000001 by omega) hby) (by decide)
  · intro v' w' h2 hg _ hb
    refine h v' w' ?_ hg hb
    show w'.ownsRow 0 e 1 v' (S ++ [u]).length (S ++ [u])
    rw [List.length_append]
    exact h2
theorem Cells.set {g : Nat} {t : TypeId} {cs : Array Value} {w : World} (h : Cells g t cs w) (j : Nat) (u : Value) : Cells g t (cs.setIfInBounds j u) (w.setCell ⟨g, j, none⟩ u) := heap_setCell_at h
theorem Cells.at {g : Nat} {t : TypeId} {cs : Array Value} {w : World} (h : Cells g t cs w) (j : Nat) : w.cell? ⟨g, j, none⟩ = cs[j]? := Lib.cell_of_heap h j
theorem Cells.frozen {g : Nat} {t : TypeId} {cs : Array Value} {w : World} (h : Cells g t cs w) (j : Nat) : w.frozen? ⟨g, j, none⟩ = false := by
  have h' : w.heap[g]? = some (.cells cs t (0, 0)) := h
  simp [World.frozen?, h']
/-! ### Bytes that came in, turned into a text; a conversion in a region whose order is open -/
theorem conv_in {P : Program} {src dst e : TypeId} (hs : P.underlying src = some (.slice e)) (he : P.underlying e = some (.int .u8)) (hd : P.underlying dst = some .string) {ao : Option Addr} {c : Nat} {b : List UInt8} {w : World} (h : NumsAt ao .u8 (byteNs b) w) :
    (convert src dst (.slice ao b.length c)).run P w = .ok (.string ⟨b.toArray⟩) w := by
  rcases h with h | ⟨g, o, rfl, _, hc⟩
  · obtain rfl : b = [] := by simpa [byteNs] using h
    rw [run_convert_bytes_string w src dst e _ _ c hs he hd]
    cases ao <;> simp [Conv.bytesToString, loadCells]
    all_goals rfl
  · refine run_convert_bytes_back w src dst e ⟨g, o, none⟩ c b hs he hd (fun j hj => ?_)
    rw [Addr.add_mid]
    have := hc j (by rw [byteNs_len]; exact hj)
    rw [this]
    simp [byteNs]
theorem quiet_conv {P : Program} {o : Oper} {a : Act} {C : World → Prop} {K : Act → Prop} (t u : TypeId) (x : Operand) (ho : o.op = .convert t u x) (v r : Value) (hx : a.eval x = v)
    (hC : ∀ w, C w → (convert t u v).run P w = .ok r w) (hk : K (a.put o.dst r)) : o.quiet P a C K := by
  refine ⟨_, fun w hw => ?_, hk⟩
  unfold Oper.quietAt execOp
  simp only [ho, hx, Sem.run_bind, hC w hw, Result.andThen_ok, Sem.run_pure]
  exact ⟨rfl, rfl⟩
end Go.Proofs.YthgfpojfnhkckaaDoor
