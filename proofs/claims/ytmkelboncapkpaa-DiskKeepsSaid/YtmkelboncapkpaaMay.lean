/-
  A row of rows of texts beside a disk, both made by the call.
-/
import Derived.Test.YtmkelboncapkpaaAlive7
import Derived.Test.YtmkelboncapkpaaTail
namespace Go.Proofs.Ytmkelboncapkpaa
open Go.RowKit Go.BigFrame

/-- A slice cut at its head, in a region whose order is open. -/
theorem quiet_slice_lo {P : Program} {o : Oper} {a : Act} {C : World → Prop} {K : Act → Prop} (t : TypeId) (x y : Operand) (ho : o.op = .slice t x (some y) none none) (vx vy r : Value) (hx : a.eval x = vx) (hy : a.eval y = vy)
    (hr : ∀ w, (Instr.sliceAt t vx (some vy) none none).run P w = .ok r w) (hk : K (a.put o.dst r)) : o.quiet P a C K := by
  refine ⟨_, fun w _ => ?_, hk⟩
  unfold Oper.quietAt execOp
  simp only [ho, Option.map_some, Option.map_none, hx, hy, Sem.run_bind, hr w, Result.andThen_ok, Sem.run_pure]
  exact ⟨rfl, rfl⟩
/-- A row of N rows of texts: F i is what the i-th holds. -/
structure MayIs (gm N : Nat) (F : Nat → List (List UInt8)) (vals : List Value) (w : World) : Prop where
  row : RowV 45 (.slice (some ⟨gm, 0, none⟩) N N) vals w
  len : vals.length = N
  each : ∀ (i : Nat) (v : Value), vals[i]? = some v → (v = .slice none 0 0 ∧ F i = []) ∨ TailV 9 v (strs (F i)) w
  apart : ∀ (i j : Nat) (u v : Value) (g : Nat), i ≠ j → vals[i]? = some u → vals[j]? = some v → u.ownBlock = some g → v.ownBlock ≠ some g
def mayO (gm : Nat) (vals : List Value) : Nat → Prop := fun b => b = gm ∨ ∃ (i : Nat) (v : Value), vals[i]? = some v ∧ v.ownBlock = some b
section
variable {gm N : Nat} {F : Nat → List (List UInt8)} {vals : List Value} {w w1 w' : World}
theorem MayIs.heap (h : MayIs gm N F vals w) : ∃ cur, w.heap[gm]? = some (.cells cur 45 (0, 0)) := h.row.heap rfl
theorem MayIs.lt (h : MayIs gm N F vals w) {b : Nat} (hb : mayO gm vals b) : b < w.heap.size := by
  rcases hb with rfl | ⟨i, v, hv, hb⟩
  · exact h.row.lt rfl
  · rcases h.each i v hv with ⟨rfl, _⟩ | ht
    · cases hb
    · exact ht.lt hb
theorem MayIs.ne (h : MayIs gm N F vals w) {i : Nat} {v : Value} (hv : vals[i]? = some v) : v.ownBlock ≠ some gm := fun e => by
  rcases h.each i v hv with ⟨rfl, _⟩ | ht
  · cases e
  · obtain ⟨c1, h1⟩ := ht.heap e
    obtain ⟨c2, h2⟩ := h.heap
    rw [h1] at h2
    simp only [Option.some.injEq, Obj.cells.injEq] at h2
    exact absurd h2.2.1 (by decide)
theorem MayIs.only {P : Nat → Prop} (h : MayIs gm N F vals w) (k : Only P w w') (hP : ∀ b, mayO gm vals b → ¬ P b) : MayIs gm N F vals w' :=
  ⟨h.row.only k (fun g hg => hP g (.inl (Option.some.inj hg).symm)), h.len, fun i v hv => by
    rcases h.each i v hv with e | ht
    · exact .inl e
    · exact .inr (ht.only k (fun g hg => hP g (.inr ⟨i, v, hv, hg⟩))), h.apart⟩
/-- The i-th row is another now. -/
theorem MayIs.put {i : Nat} {vi v : Value} {T : List (List UInt8)} (h : MayIs gm N F vals w) (hvi : vals[i]? = some vi) (hk : Only (fun b => vi.ownBlock = some b) w w1) (hv : TailV 9 v (strs T) w1) (hvo : v.ownBlock = vi.ownBlock ∨ ∃ g, v.ownBlock = some g ∧ w.heap.size ≤ g) :
    MayIs gm N (fun j => if j = i then T else F j) (vals.set i v) (w1.setCell ⟨gm, i, none⟩ v) := by
  have hgm : gm < w.heap.size := h.row.lt rfl
  have hgv : v.ownBlock ≠ some gm := fun e => by
    rcases hvo with hvo | ⟨g, hg, hge⟩
    · exact h.ne hvi (by rw [← hvo]; exact e)
    · rw [hg] at e
      have := Option.some.inj e
      omega
  have hb := (But.refl gm w1).setCell i v
  have hrow1 := h.row.only hk (fun g hg e => h.ne hvi (by rw [e, ← hg]; rfl))
  refine ⟨hrow1.set h.len.symm i v, by rw [List.length_set]; exact h.len, fun j u hu => ?_, fun j k a b g hjk ha hb' hg e => ?_⟩
  · by_cases hj : j = i
    · subst hj
      have hlt : j < vals.length := (List.getElem?_eq_some_iff.1 hvi).1
      rw [List.getElem?_set_self hlt] at hu
      obtain rfl := Option.some.inj hu
      simp only [if_true]
      exact .inr (hv.kept fun g hg => hb.block g (hv.lt hg) (fun e => hgv (by rw [← e]; exact hg)))
    · rw [List.getElem?_set_ne (Ne.symm hj)] at hu
      rw [if_neg hj]
      rcases h.each j u hu with e | ht
      · exact .inl e
      · have ht1 := ht.only hk (fun g hg e => h.apart i j vi u g (Ne.symm hj) hvi hu e hg)
        exact .inr (ht1.kept fun g hg => hb.block g (ht1.lt hg) (fun e => h.ne hu (by rw [← e]; exact hg)))
  · have hlt : ∀ k, vals[i]? = some k → i < vals.length := fun k hk => (List.getElem?_eq_some_iff.1 hk).1
    have hil := hlt _ hvi
    have key : ∀ j u, j ≠ i → vals[j]? = some u → ∀ g, u.ownBlock = some g → v.ownBlock ≠ some g := fun j u hj hu g hg e => by
      rcases hvo with hvo | ⟨g', hg', hge⟩
      · exact h.apart j i u vi g hj hu hvi hg (by rw [← hvo]; exact e)
      · rw [hg'] at e
        obtain rfl := Option.some.inj e
        have := h.lt (.inr ⟨j, u, hu, hg⟩)
        omega
    by_cases hj : j = i
    · subst hj
      rw [List.getElem?_set_self hil] at ha
      obtain rfl := Option.some.inj ha
      rw [List.getElem?_set_ne hjk] at hb'
      exact key k b (Ne.symm hjk) hb' g e hg
    · rw [List.getElem?_set_ne (Ne.symm hj)] at ha
      by_cases hki : k = i
      · subst hki
        rw [List.getElem?_set_self hil] at hb'
        obtain rfl := Option.some.inj hb'
        exact key j a hj ha g hg e
      · rw [List.getElem?_set_ne (Ne.symm hki)] at hb'
        exact h.apart j k a b g hjk ha hb' hg e
end

theorem MayIs.congr {gm N : Nat} {F F' : Nat → List (List UInt8)} {vals : List Value} {w : World} (h : MayIs gm N F vals w) (e : ∀ i, i < N → F i = F' i) : MayIs gm N F' vals w :=
  ⟨h.row, h.len, fun i v hv => by
    rw [← e i (by rw [← h.len]; exact (List.getElem?_eq_some_iff.1 hv).1)]
    exact h.each i v hv, h.apart⟩
theorem MayIs.made {gm N : Nat} {w : World} (h : w.ownsRow 0 45 1 (.slice (some ⟨gm, 0, none⟩) N N) N (madeCells #[Value.slice none 0 0] N).toList) : MayIs gm N (fun _ => []) (List.replicate N (.slice none 0 0)) w := by
  have e : (madeCells #[Value.slice none 0 0] N).toList = List.replicate N (.slice none 0 0) := toList_madeCells_one _ _
  rw [e] at h
  have hr : ∀ (i : Nat) (v : Value), (List.replicate N (Value.slice none 0 0))[i]? = some v → v = .slice none 0 0 := fun i v hv => by
    have hm := List.mem_of_getElem? hv
    exact (List.mem_replicate.1 hm).2
  refine ⟨?_, List.length_replicate, fun i v hv => .inl ⟨hr i v hv, rfl⟩, fun i j u v g _ hu _ hg => ?_⟩
  · show w.ownsRow 0 45 1 _ (List.replicate N (Value.slice none 0 0)).length _
    rw [List.length_replicate]
    exact h
  · rw [hr i u hu] at hg
    cases hg
theorem Try.infoRow7 : (Try.prog.info? 45).map (fun i => (i.zero, i.size, i.bytes)) = some (some (.slice none 0 0), 1, 24) := by kernel_rfl
/-- A disk that the call made, and such a row besides. -/
def KeepL (B : Nat) (w0 : World) (vd : Value) (S : DS) (gm N : Nat) (F : Nat → List (List UInt8)) (w : World) : Prop :=
  ∃ O vals, DiskIs O vd S w ∧ (∀ b, O b → B ≤ b) ∧ Below B w0 w ∧ B ≤ w.heap.size ∧ MayIs gm N F vals w ∧ ∀ b, mayO gm vals b → B ≤ b ∧ ¬ O b
section
variable {B : Nat} {w0 : World} {vd : Value} {S S' : DS} {gm N : Nat} {F : Nat → List (List UInt8)} {vals : List Value} {w w1 w' : World} {O O' : Nat → Prop}
theorem KeepL.below (h : KeepL B w0 vd S gm N F w) (k : Below w.heap.size w w') : KeepL B w0 vd S gm N F w' := by
  obtain ⟨O, vals, hd, hO, hb, hB, hm, ho⟩ := h
  exact ⟨O, vals, hd.only (Only.of (O := fun _ => False) k) (fun _ _ => id), hO, hb.trans (k.mono hB), Nat.le_trans hB k.size, hm.only (Only.of (O := fun _ => False) k) (fun _ _ => id), ho⟩
theorem KeepL.congr {F' : Nat → List (List UInt8)} (h : KeepL B w0 vd S gm N F w) (e : ∀ i, i < N → F i = F' i) : KeepL B w0 vd S gm N F' w := by
  obtain ⟨O, vals, hd, hO, hb, hB, hm, ho⟩ := h
  exact ⟨O, vals, hd, hO, hb, hB, hm.congr e, ho⟩
theorem KeepL.step (hO : ∀ b, O b → B ≤ b) (hb : Below B w0 w) (hB : B ≤ w.heap.size) (hm : MayIs gm N F vals w) (ho : ∀ b, mayO gm vals b → B ≤ b ∧ ¬ O b) (hd : DiskIs O' vd S' w') (ht : Turn O O' w w') : KeepL B w0 vd S' gm N F w' :=
  ⟨O', vals, hd, fun b h => (ht.own b h).elim (hO b) (Nat.le_trans hB), Only.toBelow hb ht.only hO hB, Nat.le_trans hB ht.only.size, hm.only ht.only (fun b hb => (ho b hb).2), fun b hb => ⟨(ho b hb).1, fun e => by
    rcases ht.own b e with h | h
    · exact (ho b hb).2 h
    · have := hm.lt hb; omega⟩⟩
theorem KeepL.put {i : Nat} {vi v : Value} {T : List (List UInt8)} (hd : DiskIs O vd S w) (hO : ∀ b, O b → B ≤ b) (hb : Below B w0 w) (hB : B ≤ w.heap.size) (hm : MayIs gm N F vals w) (ho : ∀ b, mayO gm vals b → B ≤ b ∧ ¬ O b)
    (hvi : vals[i]? = some vi) (hk : Only (fun b => vi.ownBlock = some b) w w1) (hv : TailV 9 v (strs T) w1) (hvo : v.ownBlock = vi.ownBlock ∨ ∃ g, v.ownBlock = some g ∧ w.heap.size ≤ g) :
    KeepL B w0 vd S gm N (fun j => if j = i then T else F j) (w1.setCell ⟨gm, i, none⟩ v) := by
  have h2 : Only (mayO gm vals) w (w1.setCell ⟨gm, i, none⟩ v) := by
    have h1 : Only (mayO gm vals) w w1 := ⟨hk.os, hk.tape, hk.output, hk.size, fun b hb hn => hk.block b hb (fun e => hn (.inr ⟨i, vi, hvi, e⟩))⟩
    exact h1.setCell i v (.inl (.inl rfl))
  refine ⟨O, vals.set i v, hd.only h2 (fun b hb e => (ho b e).2 hb), hO, Only.toBelow hb h2 (fun b hb => (ho b hb).1) hB, Nat.le_trans hB h2.size, hm.put hvi hk hv hvo, fun b hb' => ?_⟩
  have key : v.ownBlock = some b → B ≤ b ∧ ¬ O b := fun e => by
    rcases hvo with hvo | ⟨g, hg, hge⟩
    · exact ho b (.inr ⟨i, vi, hvi, by rw [← hvo]; exact e⟩)
    · rw [hg] at e
      obtain rfl := Option.some.inj e
      exact ⟨Nat.le_trans hB hge, fun e => by have := hd.lt _ e; omega⟩
  rcases hb' with rfl | ⟨j, u, hu, hub⟩
  · exact ho b (.inl rfl)
  · by_cases hj : j = i
    · subst hj
      rw [List.getElem?_set_self (List.getElem?_eq_some_iff.1 hvi).1] at hu
      obtain rfl := Option.some.inj hu
      exact key hub
    · rw [List.getElem?_set_ne (Ne.symm hj)] at hu
      exact ho b (.inr ⟨j, u, hu, hub⟩)
end
end Go.Proofs.Ytmkelboncapkpaa
