/-
  Joined: Plain mathematics of layer 1's encodings: a number's bytes, what bytes begin with. It knows of no program.; What all walks of this program share: frames, slices of texts, small facts on texts.; What speaks of no program: rows and blocks of numbers, bytes and texts, in the memory; copies, stores, loads; regions whose operations keep a class of worlds.; Operations as plain mathematics: which can be, their bytes, what bytes are.; Entries as plain mathematics: which can be, their bytes, what bytes are.; Regions whose order is open: laws; what every layer over digests wants.; The document's numbers of layer 2 as mathematics; rows of numbers; digests as mathematics.; The document's Of: what its walk's loops share.
-/
import Derived.BigQuiet
import Derived.BigRegion
import Derived.ChangeAlike
import Derived.Deep.Cut
import Derived.Deep.Quiet
import Derived.Deep.QuietTactic
import Derived.Deep.RegionWith
import Derived.Great.BuildSlice
import Derived.Laws.CopyOwn
import Derived.Laws.ResultCell
import Derived.Laws.Rows
import Derived.Lib.BitFns
import Derived.Lib.BufferWrite
import Derived.Lib.Builder
import Derived.Lib.Hide
import Derived.Maps.AppendAt
import Derived.RegionTactic
import Derived.StillTail
import Derived.StillTailTactics
import Derived.Stop.BytesEq
import Derived.Test.YtpfhlhcnmeodbaaDoorChecked
import Derived.WalkKit
namespace Go.Proofs.YtpfhlhcnmeodbaaDoor
def dig (n : Nat) : List UInt8 := if _h : n = 0 then [] else dig (n / 256) ++ [UInt8.ofNat (n % 256)]
termination_by n
decreasing_by omega
theorem dig_zero : dig 0 = [] := by unfold dig; simp
theorem dig_pos {n : Nat} (h : n ≠ 0) : dig n = dig (n / 256) ++ [UInt8.ofNat (n % 256)] := by rw [dig]; simp [h]
def val (l : List UInt8) : Nat := l.foldl (fun a d => a * 256 + d.toNat) 0
def numB (n : Nat) : List UInt8 := UInt8.ofNat (dig n).length :: dig n
theorem dig_length_le (k : Nat) : ∀ n, n < 256 ^ k → (dig n).length ≤ k := by
  induction k with
  | zero => intro n h; have : n = 0 := by simpa using h
            subst this; rw [dig_zero]; simp
  | succ k ih =>
    intro n h
    by_cases h0 : n = 0
    · subst h0; rw [dig_zero]; simp
    · rw [dig_pos h0]
      have h1 : n / 256 < 256 ^ k := by
        rw [Nat.div_lt_iff_lt_mul (by decide)]; rw [Nat.pow_succ] at h; exact h
      have := ih _ h1
      simp; omega
theorem dig_length_ge (k : Nat) : ∀ n, (dig n).length ≤ k → n < 256 ^ k := by
  induction k with
  | zero =>
    intro n h
    by_cases h0 : n = 0
    · subst h0; decide
    · rw [dig_pos h0] at h; simp at h
  | succ k ih =>
    intro n h
    by_cases h0 : n = 0
    · subst h0; exact Nat.pow_pos (by decide)
    · rw [dig_pos h0] at h
      have h1 := ih (n / 256) (by simp at h; omega)
      rw [Nat.pow_succ]
      rwa [Nat.div_lt_iff_lt_mul (by decide)] at h1
theorem dig_length_8 {n : Nat} (h : n < 9223372036854775808) : (dig n).length ≤ 8 :=
  dig_length_le 8 n (Nat.lt_of_lt_of_le h (by decide))
theorem numB_length (n : Nat) : (numB n).length = 1 + (dig n).length := by simp [numB]; omega
theorem numB_length_9 {n : Nat} (h : n < 9223372036854775808) : (numB n).length ≤ 9 := by
  have := dig_length_8 h; rw [numB_length]; omega
theorem numB_pos (n : Nat) : 1 ≤ (numB n).length := by rw [numB_length]; omega
def textB (t : List UInt8) : List UInt8 := numB t.length ++ t
def textsB (l : List (List UInt8)) : List UInt8 := (l.map textB).flatten
theorem textsB_cons (t : List UInt8) (l : List (List UInt8)) : textsB (t :: l) = textB t ++ textsB l := by simp [textsB]
theorem textsB_snoc (t : List UInt8) (l : List (List UInt8)) : textsB (l ++ [t]) = textsB l ++ textB t := by simp [textsB]
def listB (l : List (List UInt8)) : List UInt8 := numB l.length ++ textsB l
theorem bitLenAux_spec : ∀ (f n : Nat), n < 2 ^ f → (n = 0 → Lib.bitLenAux f n = 0) ∧ (n ≠ 0 → 2 ^ (Lib.bitLenAux f n - 1) ≤ n ∧ n < 2 ^ Lib.bitLenAux f n ∧ 1 ≤ Lib.bitLenAux f n) := by
  intro f
  induction f with
  | zero => intro n h; simp at h; subst h; exact ⟨fun _ => rfl, fun h => absurd rfl h⟩
  | succ f ih =>
    intro n h
    refine ⟨fun e => by subst e; simp [Lib.bitLenAux], fun e => ?_⟩
    have e2 : Lib.bitLenAux (f + 1) n = 1 + Lib.bitLenAux f (n / 2) := by simp [Lib.bitLenAux, e]
    rw [e2]
    have h2 : n / 2 < 2 ^ f := by rw [Nat.pow_succ] at h; omega
    obtain ⟨i0, i1⟩ := ih (n / 2) h2
    by_cases e3 : n / 2 = 0
    · rw [i0 e3]; have : n = 1 := by omega
      subst this; decide
    · obtain ⟨a, b, c⟩ := i1 e3
      generalize Lib.bitLenAux f (n / 2) = m at *
      obtain ⟨q, rfl⟩ : ∃ q, m = q + 1 := ⟨m - 1, by omega⟩
      simp only [Nat.add_sub_cancel] at a
      rw [show 1 + (q + 1) - 1 = q + 1 by omega, show 1 + (q + 1) = q + 1 + 1 by omega, Nat.pow_succ 2 (q + 1), Nat.pow_succ 2 q] at *
      omega
theorem bitLen_le {n : Nat} (h : n < 9223372036854775808) : Lib.bitLen n ≤ 63 := by
  obtain ⟨h0, h1⟩ := bitLenAux_spec 64 n (Nat.lt_of_lt_of_le h (by decide))
  unfold Lib.bitLen
  by_cases e : n = 0
  · rw [h0 e]; omega
  · obtain ⟨a, _, _⟩ := h1 e
    apply Decidable.byContradiction
    intro hc
    have : 2 ^ 63 ≤ 2 ^ (Lib.bitLenAux 64 n - 1) := Nat.pow_le_pow_right (by decide) (by omega)
    have e63 : (2 : Nat) ^ 63 = 9223372036854775808 := by decide
    omega
theorem bitLen_dig {n : Nat} (h : n < 9223372036854775808) : (Lib.bitLen n + 7) / 8 = (dig n).length := by
  obtain ⟨h0, h1⟩ := bitLenAux_spec 64 n (Nat.lt_of_lt_of_le h (by decide))
  unfold Lib.bitLen
  by_cases e : n = 0
  · rw [h0 e, e, dig_zero]; rfl
  · obtain ⟨a, b, c⟩ := h1 e
    generalize Lib.bitLenAux 64 n = m at *
    have p8 : ∀ k, 256 ^ k = 2 ^ (8 * k) := fun k => by rw [show (256 : Nat) = 2 ^ 8 by decide, ← Nat.pow_mul]
    apply Nat.le_antisymm
    · apply Decidable.byContradiction
      intro hc
      have g := dig_length_ge _ n (Nat.le_refl _)
      rw [p8] at g
      have : 2 ^ (8 * (dig n).length) ≤ 2 ^ (m - 1) := Nat.pow_le_pow_right (by decide) (by omega)
      omega
    · apply dig_length_le
      rw [p8]
      exact Nat.lt_of_lt_of_le b (Nat.pow_le_pow_right (by decide) (by omega))
theorem dig_get (n : Nat) : ∀ (j : Nat) (h : j < (dig n).length), ((dig n)[j]).toNat = n / 256 ^ ((dig n).length - 1 - j) % 256 := by
  induction n using Nat.strongRecOn with
  | ind n ih =>
    intro j h
    by_cases h0 : n = 0
    · subst h0; rw [dig_zero] at h; simp at h
    · have e := dig_pos h0
      have hl : (dig n).length = (dig (n / 256)).length + 1 := by rw [e]; simp
      simp only [hl, Nat.add_sub_cancel]
      by_cases hj : j < (dig (n / 256)).length
      · have := ih (n / 256) (by omega) j hj
        simp only [e, List.getElem_append_left hj]
        rw [this, Nat.div_div_eq_div_mul, ← Nat.pow_succ', show ((dig (n / 256)).length - 1 - j).succ = (dig (n / 256)).length - j by omega]
      · have hj2 : j = (dig (n / 256)).length := by omega
        subst hj2
        simp [e]
theorem textsB_append (a b : List (List UInt8)) : textsB (a ++ b) = textsB a ++ textsB b := by simp [textsB]
theorem textsB_parts (l : List (List UInt8)) (q : Nat) (h : q < l.length) : (textsB l).length = (textsB (l.take q)).length + (textB l[q]).length + (textsB (l.drop (q + 1))).length := by
  have e : l = l.take q ++ (l[q] :: l.drop (q + 1)) := by rw [← List.drop_eq_getElem_cons h, List.take_append_drop]
  have := congrArg (fun x => (textsB x).length) e
  simp only [textsB_append, textsB_cons, List.length_append] at this
  omega
theorem textB_length (t : List UInt8) : (textB t).length = (numB t.length).length + t.length := by simp [textB]
theorem listB_length (l : List (List UInt8)) : (listB l).length = (numB l.length).length + (textsB l).length := by simp [listB]
theorem textsB_take_succ (l : List (List UInt8)) (q : Nat) (h : q < l.length) : textsB (l.take (q + 1)) = textsB (l.take q) ++ numB l[q].length ++ l[q] := by
  rw [List.take_succ_eq_append_getElem h, textsB_snoc, textB, List.append_assoc]
end Go.Proofs.YtpfhlhcnmeodbaaDoor
namespace Go.Proofs.YtpfhlhcnmeodbaaDoor
open Go.RowKit
structure But (b : Nat) (w w' : World) : Prop where
  os : w'.os = w.os
  tape : w'.tape = w.tape
  output : w'.output = w.output
  size : w.heap.size ≤ w'.heap.size
  block : ∀ k, k < w.heap.size → k ≠ b → w'.heap[k]? = w.heap[k]?
theorem But.refl (b : Nat) (w : World) : But b w w := ⟨rfl, rfl, rfl, Nat.le_refl _, fun _ _ _ => rfl⟩
theorem But.trans {b : Nat} {w1 w2 w3 : World} (h : But b w1 w2) (k : But b w2 w3) : But b w1 w3 :=
  ⟨k.os.trans h.os, k.tape.trans h.tape, k.output.trans h.output, Nat.le_trans h.size k.size, fun i hi hb => (k.block i (Nat.lt_of_lt_of_le hi h.size) hb).trans (h.block i hi hb)⟩
theorem But.setCell {b : Nat} {w w' : World} (h : But b w w') (o : Nat) (v : Value) : But b w (w'.setCell ⟨b, o, none⟩ v) :=
  h.trans ⟨rfl, rfl, rfl, by simp [World.setCell], fun k _ hb => Below.heap_setCell _ _ _ _ hb⟩
theorem But.drew {b : Nat} {w w' : World} (h : But b w w') : But b w w'.drew := ⟨h.os, h.tape, h.output, h.size, h.block⟩
theorem But.below {b : Nat} {w w1 w2 : World} (h : But b w w1) (k : Below w1.heap.size w1 w2) : But b w w2 :=
  ⟨k.os.trans h.os, k.tape.trans h.tape, k.output.trans h.output, Nat.le_trans h.size k.size, fun i hi hb => (k.block i (Nat.lt_of_lt_of_le hi h.size)).trans (h.block i hi hb)⟩
theorem But.toBelow {b B : Nat} {w0 w w' : World} (h : Below B w0 w) (k : But b w w') (hb : B ≤ b) (hB : B ≤ w.heap.size) : Below B w0 w' :=
  h.trans ⟨k.os, k.tape, k.output, k.size, fun i hi => k.block i (by omega) (by omega)⟩
theorem heap_setCell_at {w : World} {b o : Nat} {v : Value} {c : Array Value} {t : TypeId} {z : Nat × Nat} (h : w.heap[b]? = some (.cells c t z)) :
    (w.setCell ⟨b, o, none⟩ v).heap[b]? = some (.cells (c.setIfInBounds o v) t z) := by
  have hlt := lt_of_block h
  have h' : w.heap[b] = .cells c t z := by simpa [Array.getElem?_eq_getElem hlt] using h
  show (w.heap.modify b _)[b]? = _
  rw [Array.getElem?_eq_getElem (by simpa using hlt), Array.getElem_modify_self, h']
  simp
theorem extract_tail (s : List UInt8) (n : Nat) : (⟨s.toArray⟩ : ByteArray).extract n s.length = ⟨(s.drop n).toArray⟩ := by
  apply ByteArray.ext
  simp only [ByteArray.data_extract]
  rw [List.extract_toArray]
  congr 1
  rw [List.extract_eq_take_drop, List.take_of_length_le (by simp)]
theorem Tryd.infoString : (Tryd.prog.info? 9).map (fun i => (i.zero, i.size, i.bytes)) = some (some (.string ⟨#[]⟩), 1, 16) := by kernel_rfl
def strs (l : List (List UInt8)) : List Value := l.map fun t => Value.string ⟨t.toArray⟩
theorem strs_length (l : List (List UInt8)) : (strs l).length = l.length := by simp [strs]
def OwnS (B : Nat) (v : Value) (l : List (List UInt8)) (w : World) : Prop := w.ownsRow B 9 1 v l.length (strs l)
theorem OwnS.form {B : Nat} {v : Value} {l : List (List UInt8)} {w : World} (h : OwnS B v l w) : ∃ ao cap, v = .slice ao l.length cap := by
  rcases h.2 with ⟨hv, h0⟩ | ⟨g, cap, cur, hv, _⟩
  · exact ⟨none, 0, by rw [hv, h0]⟩
  · exact ⟨_, _, hv⟩
def StrsAt (ao : Option Addr) (l : List (List UInt8)) (w : World) : Prop :=
  l = [] ∨ ∃ b o, ao = some ⟨b, o, none⟩ ∧ b < w.heap.size ∧ ∀ j (h : j < l.length), w.cell? ⟨b, o + j, none⟩ = some (.string ⟨l[j].toArray⟩)
theorem StrsAt.below {ao : Option Addr} {l : List (List UInt8)} {w w' : World} (h : StrsAt ao l w) (k : Below w.heap.size w w') : StrsAt ao l w' := by
  rcases h with h | ⟨b, o, ha, hb, hc⟩
  · exact Or.inl h
  · exact Or.inr ⟨b, o, ha, Nat.lt_of_lt_of_le hb k.size, fun j hj => (k.cell (p := ⟨b, o + j, none⟩) hb).trans (hc j hj)⟩
theorem strsAt_own {B : Nat} {ao : Option Addr} {c : Nat} {l : List (List UInt8)} {w : World} (h : OwnS B (.slice ao l.length c) l w) : StrsAt ao l w := by
  rcases h.2 with ⟨_, h0⟩ | ⟨g, cap, cur, hv, hg, hb, hcap, hm, hcs, htk⟩
  · exact Or.inl (List.length_eq_zero_iff.1 h0)
  · simp only [Value.slice.injEq] at hv
    obtain ⟨rfl, _, rfl⟩ := hv
    refine Or.inr ⟨g, 0, rfl, lt_of_block hb, fun j hj => ?_⟩
    have := Lib.cell_of_heap hb (0 + j)
    rw [this]
    have e := congrArg (fun x => x[j]?) htk
    simp only [List.getElem?_take] at e
    rw [if_pos (by omega)] at e
    rw [Nat.zero_add, ← Array.getElem?_toList, e, strs]
    simp [hj]
theorem drawn_below {B : Nat} {w w' : World} (h : Below B w w') (n : Nat) : Below B w (w'.drewN n) := ⟨h.os, h.tape, h.output, h.size, h.block⟩
end Go.Proofs.YtpfhlhcnmeodbaaDoor
namespace Go.Proofs.YtpfhlhcnmeodbaaDoor
open Go.RowKit
def nums (k : IntKind) (l : List Nat) : List Value := l.map fun (n : Nat) => Value.int k (n : Int)
def OwnN (B : Nat) (e : TypeId) (k : IntKind) (v : Value) (l : List Nat) (w : World) : Prop := w.ownsRow B e 1 v l.length (nums k l)
theorem OwnN.form {B : Nat} {e : TypeId} {k : IntKind} {v : Value} {l : List Nat} {w : World} (h : OwnN B e k v l w) : ∃ ao cap, v = .slice ao l.length cap := by
  rcases h.2 with ⟨hv, h0⟩ | ⟨g, cap, cur, hv, _⟩
  · exact ⟨none, 0, by rw [hv, h0]⟩
  · exact ⟨_, _, hv⟩
theorem OwnN.below {B : Nat} {e : TypeId} {k : IntKind} {v : Value} {l : List Nat} {w w' : World} (h : OwnN B e k v l w) (b : Below w.heap.size w w') : OwnN B e k v l w' := by
  refine World.ownsRow.kept (row := none) h ⟨b.os, b.tape, b.output, b.size, fun i hi _ => b.block i hi⟩ ?_
  rcases h.2 with ⟨hv, _⟩ | ⟨g, cap, cur, hv, hg, _⟩
  · exact Or.inl (by rw [hv]; rfl)
  · exact Or.inr (by rw [hv]; simp [Value.ownBlock])
theorem nums_len (k : IntKind) (l : List Nat) : (nums k l).length = l.length := by simp [nums]
def byteNs (s : List UInt8) : List Nat := s.map (fun b => b.toNat)
theorem byteNs_len (s : List UInt8) : (byteNs s).length = s.length := by simp [byteNs]
theorem getD_lt {l : List Nat} {m : Nat} (hl : ∀ x ∈ l, x < m) (h0 : 0 < m) (j : Nat) : l.getD j 0 < m := by
  rcases Nat.lt_or_ge j l.length with h | h
  · have e : l.getD j 0 = l[j] := by simp [List.getD, h]
    rw [e]
    exact hl _ (List.getElem_mem h)
  · have e : l.getD j 0 = 0 := by simp [List.getD, h]
    omega
theorem OwnN.formB {B : Nat} {e : TypeId} {k : IntKind} {v : Value} {l : List Nat} {w : World} (h : OwnN B e k v l w) (h0 : 0 < l.length) : ∃ g cap, v = .slice (some ⟨g, 0, none⟩) l.length cap ∧ B ≤ g ∧ g < w.heap.size := by
  rcases h.2 with ⟨_, h1⟩ | ⟨g, cap, cur, hv, hb, hg, _⟩
  · omega
  · exact ⟨g, cap, hv, hb, lt_of_block hg⟩
theorem nums_one (k : IntKind) (l : List Nat) : ∀ u ∈ nums k l, u.oneCell' = true := by
  intro u hu
  simp only [nums, List.mem_map] at hu
  obtain ⟨n, _, rfl⟩ := hu
  rfl
theorem nums_set (k : IntKind) (l : List Nat) (j x : Nat) : (nums k l).set j (.int k (x : Int)) = nums k (l.set j x) := by simp [nums, List.map_set]
theorem OwnN.but {B b : Nat} {e : TypeId} {k : IntKind} {v : Value} {l : List Nat} {w w' : World} (h : OwnN B e k v l w) (hb : But b w w') (ap : ∀ g, v.ownBlock = some g → b ≠ g) : OwnN B e k v l w' := by
  refine World.ownsRow.kept (row := some b) h ⟨hb.os, hb.tape, hb.output, hb.size, fun i hi hne => hb.block i hi (fun e => hne (by rw [e]))⟩ ?_
  rcases hv : v.ownBlock with _ | g
  · exact Or.inl rfl
  · exact Or.inr (fun e => ap g hv (Option.some.inj e).symm)
def Blk (b : Nat) (t : TypeId) (k : IntKind) (l : List Nat) (w : World) : Prop := w.heap[b]? = some (.cells (nums k l).toArray t (0, 0))
theorem Blk.lt {b : Nat} {t : TypeId} {k : IntKind} {l : List Nat} {w : World} (h : Blk b t k l w) : b < w.heap.size := lt_of_block h
theorem Blk.cell {b : Nat} {t : TypeId} {k : IntKind} {l : List Nat} {w : World} (h : Blk b t k l w) (j : Nat) (hj : j < l.length) : w.cell? ⟨b, j, none⟩ = some (.int k ((l.getD j 0 : Nat) : Int)) := by
  rw [Lib.cell_of_heap h j, List.getElem?_toArray, nums, List.getElem?_map, List.getElem?_eq_getElem hj, List.getD_eq_getElem?_getD, List.getElem?_eq_getElem hj]
  rfl
theorem Blk.frozen {b : Nat} {t : TypeId} {k : IntKind} {l : List Nat} {w : World} (h : Blk b t k l w) (j : Nat) : w.frozen? ⟨b, j, none⟩ = false := frozen_of_row w b j _ t h
theorem Blk.set {b : Nat} {t : TypeId} {k : IntKind} {l : List Nat} {w : World} (h : Blk b t k l w) (j x : Nat) : Blk b t k (l.set j x) (w.setCell ⟨b, j, none⟩ (.int k (x : Int))) := by
  have e := heap_setCell_at (o := j) (v := .int k (x : Int)) h
  rw [List.setIfInBounds_toArray, nums_set] at e
  exact e
theorem Blk.below {b : Nat} {t : TypeId} {k : IntKind} {l : List Nat} {w w' : World} (h : Blk b t k l w) (hb : Below w.heap.size w w') : Blk b t k l w' := (hb.block b h.lt).trans h
theorem Blk.but {b g : Nat} {t : TypeId} {k : IntKind} {l : List Nat} {w w' : World} (h : Blk b t k l w) (hb : But g w w') (hne : b ≠ g) : Blk b t k l w' := (hb.block b h.lt hne).trans h
theorem Blk.alloc {b : Nat} {t : TypeId} {k : IntKind} {l : List Nat} {w : World} (h : Blk b t k l w) (o : Obj) : Blk b t k l (w.alloc o) := (heap_alloc_old w o h.lt).trans h
theorem Blk.drawn {b : Nat} {t : TypeId} {k : IntKind} {l : List Nat} {w : World} (h : Blk b t k l w) (n : Nat) : Blk b t k l (w.drewN n) := h
theorem Blk.row {b : Nat} {t : TypeId} {k : IntKind} {l l' : List Nat} {w : World} (h : Blk b t k l w) : Blk b t k l' (w.setRow b (nums k l').toArray) := setRow_heap _ _ _ _ _ _ h
theorem But.setRow {b : Nat} {w w' : World} (h : But b w w') (cs : Array Value) : But b w (w'.setRow b cs) :=
  h.trans ⟨rfl, rfl, rfl, by simp, fun k _ hb => setRow_other w' b k cs hb⟩
theorem But.new {b g : Nat} {w w1 w2 : World} (h : But b w w1) (k : But g w1 w2) (hg : w.heap.size ≤ g) : But b w w2 :=
  ⟨k.os.trans h.os, k.tape.trans h.tape, k.output.trans h.output, Nat.le_trans h.size k.size, fun i hi hb => (k.block i (Nat.lt_of_lt_of_le hi h.size) (by omega)).trans (h.block i hi hb)⟩
theorem But.alloc {b : Nat} {w w' : World} (h : But b w w') (o : Obj) : But b w (w'.alloc o) := h.below ((Below.refl _ _).alloc (Nat.le_refl _) _)
theorem nums_size (k : IntKind) (l : List Nat) : (nums k l).toArray.size = l.length := by simp [nums]
theorem nums_all (k : IntKind) (l : List Nat) : (nums k l).toArray.all (·.oneCell') = true := by
  rw [Array.all_eq_true_iff_forall_mem]
  intro x hx
  exact nums_one k l x (by simpa using hx)
theorem run_index_nums {P : Program} (t e : TypeId) (n : Nat) (k : IntKind) (l : List Nat) (j : Nat) (w : World) (h : P.underlying t = some (.array n e)) (hl : l.length = n) (hz : ∀ w, (sizeOf e).run P w = .ok 1 w) (ha : ∀ w, (isAgg e).run P w = .ok false w) (hj : j < n) :
    (Instr.index t (.agg (nums k l).toArray) (.int .i64 (j : Int))).run P w = .ok (.int k ((l.getD j 0 : Nat) : Int)) w := by
  have h2 : (0 : Int) ≤ j ∧ (j : Int) < n := by omega
  have hn : (nums k l)[j]? = some (.int k ((l.getD j 0 : Nat) : Int)) := by
    rw [nums, List.getElem?_map, List.getElem?_eq_getElem (by omega), List.getD_eq_getElem?_getD, List.getElem?_eq_getElem (by omega)]
    rfl
  simp [Instr.index, run_underlying h, asIntOf, hj, go_sem, hz, ha]
  rw [hn]
  simp
theorem byteCells_nums (l : List UInt8) : Lib.byteCells l = nums .u8 (byteNs l) := by simp [Lib.byteCells, nums, byteNs]
theorem run_copy_bytes {P : Program} (w : World) (dT sT ty elem : TypeId) (g cap : Nat) (s : List UInt8) (l : List Nat) (t : TypeId)
    (hu : P.underlying dT = some (.slice elem)) (hs : (P.info? elem).map (·.size) = some 1) (hg : Blk g t .u8 l w) :
    (Builtin.copy_ #[dT, sT] ty #[.slice (some ⟨g, 0, none⟩) l.length cap, .string ⟨s.toArray⟩]).run P w =
      .ok (goInt (min s.length l.length)) (w.setRow g (nums .u8 (byteNs (s.take l.length) ++ l.drop s.length)).toArray) := by
  have hlen : (Lib.byteCells (s.take l.length)).length = min s.length l.length := by rw [Lib.byteCells_length, List.length_take, Nat.min_comm]
  have hst := run_storeCells_at P g 0 t (Lib.byteCells (s.take l.length)) 0 (nums .u8 l).toArray w hg (by rw [hlen, nums_size]; omega) (Lib.byteCells_one _)
  have htk : List.take (min s.length l.length) (List.map (fun b : UInt8 => Value.int IntKind.u8 (b.toNat : Int)) s) = Lib.byteCells (s.take l.length) := by
    rw [← List.map_take, Lib.byteCells]
    congr 1
    rcases Nat.le_total s.length l.length with h | h
    · rw [Nat.min_eq_left h, List.take_of_length_le (Nat.le_refl _), List.take_of_length_le h]
    · rw [Nat.min_eq_right h]
  have hsz : (⟨s.toArray⟩ : ByteArray).size = s.length := by simp [ByteArray.size]
  have hend : (nums .u8 (byteNs (s.take l.length) ++ l.drop s.length)) = Lib.byteCells (s.take l.length) ++ (nums .u8 l).drop (min s.length l.length) := by
    rw [byteCells_nums, nums, List.map_append]
    congr 1
    rcases Nat.le_total s.length l.length with h | h
    · rw [Nat.min_eq_left h, nums, List.map_drop]
    · rw [Nat.min_eq_right h, List.drop_of_length_le h, List.drop_of_length_le (by rw [nums_len]; exact Nat.le_refl _)]
      rfl
  rw [hlen] at hst
  rw [hend]
  simp only [Nat.add_zero] at hst
  cases hq : P.info? elem with
  | none => simp [hq] at hs
  | some i =>
    have hmin : s.length.min l.length = min s.length l.length := rfl
    simp [Builtin.copy_, run_underlying hu, Builtin.lenOf, Builtin.firstCells, sizeOf, typeInfo, hq, hsz, hmin]
    rw [htk, hst]
    simp [Result.andThen]
    congr 1
    omega
theorem wpList_copy_bytes {P : Program} {w : World} {ops : Array Oper} {rest : List Oper} {o : Oper} {a : Act} {Q : Exit → Act → World → Prop} (hgd : o.guard = none) (d x : Operand) (dT sT : TypeId)
    (ho : o.op = .call { callee := .builtin .copy, args := #[d, x], argTypes := #[dT, sT] }) (elem : TypeId) (hu : P.underlying dT = some (.slice elem)) (hs : (P.info? elem).map (·.size) = some 1)
    (g cap n : Nat) (s : List UInt8) (l : List Nat) (t : TypeId) (hn : n = l.length) (hd : a.eval d = .slice (some ⟨g, 0, none⟩) n cap) (hx : a.eval x = .string ⟨s.toArray⟩) (hg : Blk g t .u8 l w)
    (h : ∀ w', Hid (Blk g t .u8 (byteNs (s.take l.length) ++ l.drop s.length) w') → Hid (But g w w') → wpList P ops Q rest (a.put o.dst (goInt (min s.length l.length))) w') :
    wpList P ops Q (o :: rest) a w := by
  subst hn
  refine wpList_plain hgd fun K hK => ?_
  have hrun := run_copy_bytes (P := P) w dT sT o.type elem g cap s l t hu hs hg
  unfold Oper.wp
  simp [execOp, ho, resolve, invoke, builtin, hd, hx, hrun, Result.andThen]
  exact hK _ _ (h _ hg.row ((But.refl g w).setRow _))
theorem wpList_store_nums {P : Program} {w : World} {ops : Array Oper} {rest : List Oper} {o : Oper} {a : Act} {Q : Exit → Act → World → Prop} (hgd : o.guard = none) (ty : TypeId) (x y : Operand) (ho : o.op = .store ty x y)
    (hd : o.dst = none) (g : Nat) (k : IntKind) (l l' : List Nat) (t : TypeId) (hx : a.eval x = .pointer (some ⟨g, 0, none⟩)) (hy : a.eval y = .agg (nums k l').toArray)
    (hg : Blk g t k l w) (hi : (P.info? ty).map (·.size) = some l'.length) (hl : l.length = l'.length)
    (h : ∀ w', Hid (Blk g t k l' w') → Hid (But g w w') → wpList P ops Q rest a w') : wpList P ops Q (o :: rest) a w :=
  wpList_store_rowTo hgd ty x y ho hd g (nums k l').toArray hx hy t _ hg (by rw [nums_size]; exact hi) (by rw [nums_size, nums_size]; exact hl) (nums_all _ _) (h _ hg.row ((But.refl g w).setRow _))
theorem wpList_load_nums {P : Program} {w : World} {ops : Array Oper} {rest : List Oper} {o : Oper} {a : Act} {Q : Exit → Act → World → Prop} (hgd : o.guard = none) (ty : TypeId) (x : Operand) (ho : o.op = .load ty x)
    (g : Nat) (k : IntKind) (l : List Nat) (t : TypeId) (d : TypeDesc) (hx : a.eval x = .pointer (some ⟨g, 0, none⟩)) (hg : Blk g t k l w)
    (hu : P.underlying ty = some d) (hd : (match d with | .struct _ | .array _ _ => true | _ => false) = true) (hi : (P.info? ty).map (·.size) = some l.length)
    (h : wpList P ops Q rest (a.put o.dst (.agg (nums k l).toArray)) w) : wpList P ops Q (o :: rest) a w :=
  wpList_load_row hgd ty x ho g hx t _ _ d hg hu hd (by rw [nums_size]; exact hi) h
theorem results_nums {P : Program} {fn : Func} {p : Tmp} {ty : TypeId} (h : fn.results = #[.cell p ty]) (tmps : Array Value) (w : World) (g : Nat) (k : IntKind) (l : List Nat) (t : TypeId) (d : TypeDesc)
    (hp : tmps.getD p undef = .pointer (some ⟨g, 0, none⟩)) (hg : Blk g t k l w)
    (hu : P.underlying ty = some d) (hd : (match d with | .struct _ | .array _ _ => true | _ => false) = true) (hi : (P.info? ty).map (·.size) = some l.length) :
    (results fn tmps).run P w = .ok (.agg (nums k l).toArray) w :=
  results_cell_row h tmps w g t _ (0, 0) d hp hg hu hd (by rw [nums_size]; exact hi)
theorem byteNs_lt (r : List UInt8) : ∀ x ∈ byteNs r, x < 256 := by
  intro x h
  simp only [byteNs, List.mem_map] at h
  obtain ⟨b, _, rfl⟩ := h
  exact b.toNat_lt
def txt (l : List Nat) : List UInt8 := l.map UInt8.ofNat
theorem txt_len (l : List Nat) : (txt l).length = l.length := by simp [txt]
theorem byteNs_txt {l : List Nat} (h : ∀ x ∈ l, x < 256) : byteNs (txt l) = l := by
  induction l with
  | nil => rfl
  | cons y l ih =>
    have hy := h y (by simp)
    simp only [txt, byteNs, List.map_cons, List.map_map] at ih ⊢
    rw [ih (fun z hz => h z (by simp [hz]))]
    congr 1
    rw [UInt8.toNat_ofNat']
    omega
theorem byteNs_nums (s : List UInt8) : nums .u8 (byteNs s) = s.map fun b => Value.int .u8 (b.toNat : Int) := by simp [nums, byteNs]
theorem txt_inj {l m : List Nat} (hl : ∀ x ∈ l, x < 256) (hm : ∀ x ∈ m, x < 256) (h : txt l = txt m) : l = m := by
  rw [← byteNs_txt hl, ← byteNs_txt hm, h]
theorem txt_append (l m : List Nat) : txt (l ++ m) = txt l ++ txt m := by simp [txt]
theorem cells_txt {l : List Nat} (h : ∀ x ∈ l, x < 256) : nums .u8 l = (txt l).map Extern.Stop.cell := by
  have e : (txt l).map Extern.Stop.cell = nums .u8 (byteNs (txt l)) := (byteNs_nums (txt l)).symm
  rw [e, byteNs_txt h]
theorem txt_beq {a b : List Nat} (la : ∀ x ∈ a, x < 256) (lb : ∀ x ∈ b, x < 256) : (txt a == txt b) = (a == b) := by
  rw [Bool.eq_iff_iff, beq_iff_eq, beq_iff_eq]
  exact ⟨txt_inj la lb, fun h => by rw [h]⟩
theorem equal_nums {P : Program} (t e : TypeId) (n : Nat) (ht : P.underlying t = some (.array n e)) (he : P.underlying e = some (.int .u8)) (hsz : ∀ w, (sizeOf e).run P w = .ok 1 w)
    (a b : List Nat) (ha : a.length = n) (hb : b.length = n) (la : ∀ x ∈ a, x < 256) (lb : ∀ x ∈ b, x < 256) (w : World) :
    (Op.equalIn 10000 t (.agg (nums .u8 a).toArray) (.agg (nums .u8 b).toArray)).run P w = .ok (a == b) w := by
  rw [cells_txt la, cells_txt lb, run_equalIn_bytes w 9998 t e n ht he hsz (txt a) (txt b) (by rw [txt_len, ha]) (by rw [txt_len, hb]), txt_beq la lb]
theorem wp_region_class {P : Program} {id : Nat} {Q : Exit → Act → World → Prop} {a : Act} {w : World} {l : List Oper} (C : World → Prop) (hm : P.follows .mixedOrders = true) (hB : Region.lexB .any l.toArray = true) (hC : C w.drew)
    (h : wpQuiet P l.toArray C (fun a' => ∀ w', C w' → Q .normal a' w') l a) : (Code.region id l.toArray true).wp P Q a w :=
  wp_region_quiet (C := C) hm hB hC (by simpa using h)
theorem quiet_load_nums {P : Program} {o : Oper} {a : Act} {C : World → Prop} {K : Act → Prop} (ty : TypeId) (x : Operand) (ho : o.op = .load ty x) (b : Nat) (k : IntKind) (l : List Nat) (t : TypeId) (d : TypeDesc)
    (hx : a.eval x = .pointer (some ⟨b, 0, none⟩)) (hC : ∀ w, C w → Blk b t k l w) (hu : P.underlying ty = some d) (hd : (match d with | .struct _ | .array _ _ => true | _ => false) = true) (hi : (P.info? ty).map (·.size) = some l.length)
    (hk : K (a.put o.dst (.agg (nums k l).toArray))) : o.quiet P a C K := by
  refine ⟨_, fun w hw => ?_, hk⟩
  unfold Oper.quietAt execOp
  simp only [ho, hx, Instr.loadAt, Instr.sureAddr, Sem.run_bind, Sem.run_pure, Result.andThen_ok, run_loadVar_row w b t ty _ (0, 0) d (hC w hw) hu hd (by rw [nums_size]; exact hi)]
  exact ⟨rfl, rfl⟩
end Go.Proofs.YtpfhlhcnmeodbaaDoor
namespace Go.Proofs.YtpfhlhcnmeodbaaDoor
open Go.RowKit
structure DraftN where
  kind : Int
  key : List UInt8
  val : List UInt8
  ref : List Nat
deriving DecidableEq
structure OpN where
  d : DraftN
  author : Int
  depth : Int
  preds : List (List Nat)
deriving DecidableEq
def IdOk (l : List Nat) : Prop := l.length = 32 ∧ ∀ x ∈ l, x < 256
def zeroI : List Nat := List.replicate 32 0
theorem zeroI_ok : IdOk zeroI := ⟨List.length_replicate, fun x hx => by rw [(List.mem_replicate.1 hx).2]; decide⟩
def cmpN : List Nat → List Nat → Int
  | a :: x, b :: y => if a < b then -1 else if b < a then 1 else cmpN x y
  | _, _ => 0
def GoodD (d : DraftN) : Prop := 1 ≤ d.kind ∧ d.kind ≤ 5 ∧ 1 ≤ d.key.length ∧ d.key.length ≤ 16 ∧ d.val.length ≤ 64 ∧ (d.kind ≤ 3 → d.ref = zeroI) ∧ (d.kind = 5 → d.ref ≠ zeroI ∧ d.val = [])
instance (d : DraftN) : Decidable (GoodD d) := by unfold GoodD; infer_instance
def AscN (L : List (List Nat)) : Prop := ∀ i, i < L.length → 0 < i → cmpN (L.getD (i - 1) []) (L.getD i []) = -1
instance (L : List (List Nat)) : Decidable (AscN L) := by unfold AscN; infer_instance
def GoodO (o : OpN) : Prop := AscN o.preds ∧ (o.preds = [] → o.depth = 1) ∧ (o.preds ≠ [] → 2 ≤ o.depth) ∧ o.preds.length ≤ 32 ∧ GoodD o.d ∧ 0 ≤ o.author ∧ o.author ≤ 4
instance (o : OpN) : Decidable (GoodO o) := by unfold GoodO; infer_instance
def draftB (d : DraftN) : List UInt8 := listB [numB d.kind.toNat, d.key, d.val, txt d.ref]
theorem draftB_len (d : DraftN) : (draftB d).length = 2 + (numB (numB d.kind.toNat).length).length + (numB d.kind.toNat).length + (textB d.key).length + (textB d.val).length + (textB (txt d.ref)).length := by
  rw [draftB, listB_length]
  simp only [List.length_cons, List.length_nil, Nat.zero_add, Nat.reduceAdd, textsB_cons, List.length_append]
  have e : (numB 4).length = 2 := by simp [numB, dig]
  have e2 : (textsB []).length = 0 := rfl
  rw [e, e2, textB_length (numB _)]
  omega
theorem textB_le9 {t : List UInt8} (h : t.length < 9223372036854775808) : (textB t).length ≤ t.length + 9 := by
  have := numB_length_9 h
  rw [textB_length]
  omega
theorem numB_len9 {n : Nat} (h : n < 9223372036854775808) : (numB n).length ≤ 9 := numB_length_9 h
theorem draftB_le {d : DraftN} (hk : d.kind < 9223372036854775808) (h1 : d.key.length ≤ 512) (h2 : d.val.length ≤ 512) (h3 : d.ref.length = 32) : (draftB d).length ≤ 1200 := by
  have e := draftB_len d
  have a1 := numB_len9 (n := d.kind.toNat) (by omega)
  have a2 := numB_len9 (n := (numB d.kind.toNat).length) (by omega)
  have a3 := textB_le9 (t := d.key) (by omega)
  have a4 := textB_le9 (t := d.val) (by omega)
  have a5 := textB_le9 (t := txt d.ref) (by rw [txt_len]; omega)
  rw [txt_len] at a5
  omega
end Go.Proofs.YtpfhlhcnmeodbaaDoor
namespace Go.Proofs.YtpfhlhcnmeodbaaDoor
open Go.RowKit
structure EntN where
  kind : Int
  d : DraftN
  src : Int
  seq : Int
  prev : List Nat
  mask : Int
  pay : List UInt8
  sig : List UInt8
deriving DecidableEq
structure EntN.Ok (e : EntN) : Prop where
  ref : IdOk e.d.ref
  prev : IdOk e.prev
def noD : DraftN := ⟨0, [], [], zeroI⟩
def noE : EntN := ⟨0, noD, 0, 0, zeroI, 0, [], []⟩
def OutE (e : EntN) : Prop := 1 ≤ e.mask ∧ e.mask ≤ 31 ∧ e.pay.length ≤ 2048
def BareE (e : EntN) : Prop := e.src = 0 ∧ e.seq = 0 ∧ e.prev = zeroI ∧ e.sig = []
def GoodE (e : EntN) : Prop :=
  (e.kind = 1 ∧ GoodD e.d ∧ BareE e ∧ e.mask = 0 ∧ e.pay = []) ∨
  (e.kind = 2 ∧ OutE e ∧ e.d = noD ∧ 0 ≤ e.src ∧ e.src ≤ 4 ∧ 1 ≤ e.seq ∧ e.sig.length ≤ 1024) ∨
  (e.kind = 3 ∧ OutE e ∧ e.d = noD ∧ BareE e)
instance (e : EntN) : Decidable (OutE e) := by unfold OutE; infer_instance
instance (e : EntN) : Decidable (BareE e) := by unfold BareE; infer_instance
instance (e : EntN) : Decidable (GoodE e) := by unfold GoodE; infer_instance
def partsE (e : EntN) : List (List UInt8) :=
  if e.kind = 1 then [numB 1, draftB e.d]
  else if e.kind = 2 then [numB 2, numB e.src.toNat, numB e.seq.toNat, txt e.prev, numB e.mask.toNat, e.pay, e.sig]
  else [numB 3, numB e.mask.toNat, e.pay]
def entB (e : EntN) : List UInt8 := if GoodE e then listB (partsE e) else []
theorem entB_good {e : EntN} (h : GoodE e) : entB e = listB (partsE e) := if_pos h
theorem entB_bad {e : EntN} (h : ¬ GoodE e) : entB e = [] := if_neg h
structure EntN.Fit (e : EntN) : Prop where
  ok : e.Ok
  seq : e.seq < 9223372036854775808
theorem partsE_le {e : EntN} (h : GoodE e) (hf : e.Fit) : (listB (partsE e)).length ≤ 8000 := by
  rw [listB_length]
  have e2 : (textsB []).length = 0 := rfl
  have n9 : ∀ n, n < 9223372036854775808 → (numB n).length ≤ 9 := fun n h => numB_len9 h
  have t9 : ∀ t : List UInt8, t.length < 9223372036854775808 → (textB t).length ≤ t.length + 9 := fun t h => textB_le9 h
  have hs := hf.seq
  rcases h with ⟨hk, hd, -, -, -⟩ | ⟨hk, ⟨h1, h2, h3⟩, -, h4, h5, h6, h7⟩ | ⟨hk, ⟨h1, h2, h3⟩, -, -⟩
  · have hd1 : (draftB e.d).length ≤ 1200 := draftB_le (by have := hd.2.1; omega) (by have := hd.2.2.2.1; omega) (by have := hd.2.2.2.2.1; omega) hf.ok.ref.1
    have a1 := n9 1 (by decide)
    have a2 := t9 (numB 1) (by omega)
    have a3 := t9 (draftB e.d) (by omega)
    have a4 := n9 2 (by decide)
    rw [partsE, if_pos hk]
    simp only [List.length_cons, List.length_nil, Nat.zero_add, Nat.reduceAdd, textsB_cons, List.length_append, e2]
    omega
  · have a1 := n9 2 (by decide)
    have a2 := t9 (numB 2) (by omega)
    have b1 := n9 e.src.toNat (by omega)
    have b2 := t9 (numB e.src.toNat) (by omega)
    have c1 := n9 e.seq.toNat (by omega)
    have c2 := t9 (numB e.seq.toNat) (by omega)
    have d1 := n9 e.mask.toNat (by omega)
    have d2 := t9 (numB e.mask.toNat) (by omega)
    have p1 : (txt e.prev).length = 32 := by rw [txt_len]; exact hf.ok.prev.1
    have p2 := t9 (txt e.prev) (by omega)
    have p3 := t9 e.pay (by omega)
    have p4 := t9 e.sig (by omega)
    have a4 := n9 7 (by decide)
    rw [partsE, if_neg (by omega), if_pos hk]
    simp only [List.length_cons, List.length_nil, Nat.zero_add, Nat.reduceAdd, textsB_cons, List.length_append, e2]
    omega
  · have a1 := n9 3 (by decide)
    have a2 := t9 (numB 3) (by omega)
    have d1 := n9 e.mask.toNat (by omega)
    have d2 := t9 (numB e.mask.toNat) (by omega)
    have p3 := t9 e.pay (by omega)
    rw [partsE, if_neg (by omega), if_neg (by omega)]
    simp only [List.length_cons, List.length_nil, Nat.zero_add, Nat.reduceAdd, textsB_cons, List.length_append, e2]
    omega
theorem entB_le {e : EntN} (hf : e.Fit) : (entB e).length ≤ 8000 := by
  by_cases h : GoodE e
  · rw [entB_good h]
    exact partsE_le h hf
  · rw [entB_bad h]
    decide
end Go.Proofs.YtpfhlhcnmeodbaaDoor
namespace Go.Proofs.YtpfhlhcnmeodbaaDoor
open Go.RowKit
section
variable {P : Program} {ops : Array Oper} {md : Region.Mode} {C : World → Prop}
def headIn (P : Program) (md : Region.Mode) (ops : Array Oper) (C : World → Prop) (n : Nat) (L : Array Bool → Act → Prop) : Nat → Array Bool → Act → Prop
  | 0, seen, a => L seen a
  | f + 1, seen, a => Region.ready md ops seen ≠ [] ∧ ∀ i, i ∈ Region.ready md ops seen → i < n ∧ qOp P ops C i (headIn P md ops C n L f (seen.setIfInBounds i true)) a
theorem any_of_headIn {n g : Nat} {L : Array Bool → Act → Prop} {Q : Exit → Act → World → Prop} (hL : ∀ seen a w, C w → L seen a → wpAny P md ops Q g seen a w) (f : Nat) :
    ∀ (seen : Array Bool) (a : Act) (w : World), C w → headIn P md ops C n L f seen a → wpAny P md ops Q (f + g) seen a w := by
  induction f with
  | zero => intro seen a w hw h; rw [Nat.zero_add]; exact hL seen a w hw h
  | succ f ih =>
    intro seen a w hw h
    rw [Nat.add_right_comm]
    exact ⟨fun e => (h.1 e).elim, fun i hi => wpOp_of_qOp hw (fun a' w' hw' h' => ih _ a' w' hw' h') (h.2 i hi).2⟩
theorem headIn_first {n i : Nat} {o : Oper} {v : Value} {L : Array Bool → Act → Prop} (ho : ops[i]? = some o) (hns : Region.noSelect ops = true) (hsink : Region.sinkB md ops n = true) (hchain : Region.chainB md ops n = true) (hn : n < ops.size) (hi : i < n)
    (hend : ∀ seen a, L seen a → ∀ j ∈ Region.ready md ops seen, n ≤ j) (f : Nat) :
    ∀ (seen : Array Bool) (a : Act), HeadInv md ops n seen →
      (∀ j p, ops[j]? = some p → j ≠ i → seen.getD j true = false → (∀ e ∈ p.after, Region.binds md e = true → e.on ≠ i) → o.apart ops p = true) →
      i ∈ Region.ready md ops seen → YieldsIn P ops C o v a → headIn P md ops C n L f (seen.setIfInBounds i true) (a.put o.dst v) → headIn P md ops C n L (f + 1) seen a := by
  have hsel := Region.noSelect_spec hns
  induction f with
  | zero =>
    intro seen a inv _ hr hy H
    refine ⟨List.ne_nil_of_mem hr, fun j hj => ?_⟩
    have hjn : j < n := Nat.lt_of_not_le fun h => tail_waits hsink hchain hn inv _ i rfl hi (mem_ready.1 hr).1 j h hj
    refine ⟨hjn, ?_⟩
    by_cases e : j = i
    · subst e
      exact hy.qOp ho H
    · exact absurd (hend _ _ H j (ready_mono hj e)) (by omega)
  | succ f ih =>
    intro seen a inv hfree hr hy H
    refine ⟨List.ne_nil_of_mem hr, fun j hj => ?_⟩
    have hjn : j < n := Nat.lt_of_not_le fun h => tail_waits hsink hchain hn inv _ i rfl hi (mem_ready.1 hr).1 j h hj
    refine ⟨hjn, ?_⟩
    by_cases e : j = i
    · subst e
      exact hy.qOp ho H
    · obtain ⟨hjs, p, hp, hall⟩ := mem_ready.1 hj
      have hno : ∀ x ∈ p.after, Region.binds md x = true → x.on ≠ i := fun x hx hb ex => by
        have h1 := hall x hx hb
        rw [ex, getD_both (mem_ready.1 hr).1] at h1
        cases h1
      refine qOp_mono (fun a' h3 => ?_) (qOp_put hp (hfree j p hp e hjs hno) (fun cs b => hsel i o cs b ho) (fun cs b => hsel j p cs b hp) hy (H.2 j (ready_mono hj e)).2)
      refine ih _ a' (inv.set hj hjn) (fun k q hq hk hs hnk => ?_) (ready_mono hr (Ne.symm e)) h3.1 ?_
      · refine hfree k q hq hk ?_ hnk
        by_cases ek : j = k
        · subst ek; exact hjs
        · rwa [getD_set_ne true ek] at hs
      · rw [Array.setIfInBounds_comm _ _ e]
        exact h3.2
theorem headIn_lex {n g : Nat} {M : Act → Prop} (hns : Region.noSelect ops = true) (hsink : Region.sinkB md ops n = true) (hchain : Region.chainB md ops n = true) (hn : n < ops.size) (l : List Oper) :
    ∀ (k : Nat) (seen : Array Bool) (a : Act), (∀ j, j < l.length → l[j]? = ops[k + j]?) → k + l.length = n → HeadInv md ops n seen → Region.lexHead md ops g l.length k seen = true → wpQuiet P ops C M l a →
    headIn P md ops C n (fun seen' a' => Region.seqB md ops g n seen' = true ∧ M a') l.length seen a := by
  induction l with
  | nil =>
    intro k seen a _ hk _ hB h
    obtain rfl : k = n := hk
    exact ⟨hB, h⟩
  | cons o l ih =>
    intro k seen a hl hk inv hB h
    have ho : ops[k]? = some o := by simpa using (hl 0 (by simp)).symm
    have hlen : (o :: l).length = l.length + 1 := rfl
    rw [hlen] at hk hB
    simp only [Region.lexHead, Bool.and_eq_true] at hB
    have hkr : k ∈ Region.ready md ops seen := by simpa using hB.1.1
    obtain ⟨v, hy, hK⟩ := yieldsIn_of_qOp ho (show qOp P ops C k (wpQuiet P ops C M l) a by unfold qOp; simp only [ho]; exact h)
    refine headIn_first ho hns hsink hchain hn (by omega) (fun seen' a' hL => seqB_ready hL.1) l.length seen a inv (Region.free_spec ho hB.1.2) hkr hy (ih (k + 1) _ _ (fun j hj => ?_) (by omega) (inv.set hkr (by omega)) hB.2 hK)
    have := hl (j + 1) (by simp; omega)
    rw [List.getElem?_cons_succ] at this
    rw [this]
    congr 1
    omega
theorem wp_region_class_tail {id : Nat} {Q : Exit → Act → World → Prop} {a : Act} {w : World} {l : List Oper} (C : World → Prop) (n : Nat) (hm : P.follows .mixedOrders = true) (hB : Region.lexTailB .any l.toArray n = true) (hC : C w.drew)
    (h : wpQuiet P l.toArray C (fun a' => ∀ w', C w' → wpList P l.toArray Q (l.drop n) a' w') (l.take n) a) : (Code.region id l.toArray true).wp P Q a w := by
  simp only [Region.lexTailB, Bool.and_eq_true, decide_eq_true_eq] at hB
  obtain ⟨⟨⟨⟨hns, hn⟩, hsink⟩, hchain⟩, hlex⟩ := hB
  have hsz : l.toArray.size = l.length := by simp
  have ht : (l.take n).length = n := by rw [List.length_take]; omega
  have hd : (l.drop n).length = l.toArray.size - n := by rw [List.length_drop, hsz]
  have inv : HeadInv .any l.toArray n (Array.replicate l.toArray.size false) :=
    ⟨Array.size_replicate, fun j p _ hs => (by rw [getD_replicate_false] at hs; cases hs), fun t _ ht' => getD_in (by rw [Array.size_replicate]; exact ht') (getD_replicate_false _ _)⟩
  have H := headIn_lex (md := .any) (g := l.toArray.size - n) hns hsink hchain hn (l.take n) 0 _ a (fun j hj => by
    rw [ht] at hj
    simp [hj]) (by omega) inv (by rw [ht]; exact hlex) h
  have A := any_of_headIn (Q := Q) (g := l.toArray.size - n) (fun seen a' w' hw' hL => by
    have := wpAny_of_seq (md := .any) (Q' := Q) (l.drop n) n seen a' w' (fun j => by simp [List.getElem?_drop]) (by rw [hd]; exact hL.1) (hL.2 w' hw')
    rwa [hd] at this) _ _ a w.drew hC H
  rw [ht, show n + (l.toArray.size - n) = l.toArray.size by omega] at A
  exact wp_region_any hm A
end
end Go.Proofs.YtpfhlhcnmeodbaaDoor
namespace Go.Proofs.YtpfhlhcnmeodbaaDoor
open Go.RowKit
section
variable {P : Program} {ops : Array Oper} {md : Region.Mode}
def left (seen : Array Bool) (n : Nat) : Nat := (List.range n).countP fun i => !seen.getD i false
theorem left_zero {seen : Array Bool} {n : Nat} (h : left seen n = 0) (i : Nat) (hi : i < n) : seen.getD i false = true := by
  have := List.countP_eq_zero.1 h i (List.mem_range.2 hi)
  simpa using this
theorem left_set {seen : Array Bool} {i : Nat} (hs : i < seen.size) (hu : seen.getD i false = false) : ∀ n, i < n → left (seen.setIfInBounds i true) n + 1 = left seen n := by
  intro n
  induction n with
  | zero => intro h; omega
  | succ n ih =>
    intro h
    simp only [left, List.range_succ, List.countP_append, List.countP_cons, List.countP_nil] at ih ⊢
    by_cases e : i = n
    · subst e
      have h1 : (seen.setIfInBounds i true).getD i false = true := by simp [hs]
      have h2 : (List.range i).countP (fun j => !(seen.setIfInBounds i true).getD j false) = (List.range i).countP (fun j => !seen.getD j false) := by
        refine List.countP_congr fun j hj => ?_
        rw [getD_set_ne false (by have := List.mem_range.1 hj; omega)]
      rw [h1, h2, hu]
      simp
    · have h1 : (seen.setIfInBounds i true).getD n false = seen.getD n false := getD_set_ne false e
      rw [h1]
      have := ih (by omega)
      omega
theorem left_least {seen : Array Bool} : ∀ {n : Nat}, left seen n ≠ 0 → ∃ k, k < n ∧ seen.getD k false = false ∧ ∀ j, j < k → seen.getD j false = true := by
  intro n
  induction n with
  | zero => intro h; exact absurd rfl h
  | succ n ih =>
    intro h
    by_cases h0 : left seen n = 0
    · refine ⟨n, by omega, ?_, left_zero h0⟩
      simp only [left, List.range_succ, List.countP_append, List.countP_cons, List.countP_nil] at h h0
      cases hs : seen.getD n false with
      | false => rfl
      | true => exact absurd h0 (by rw [hs] at h; simpa using h)
    · obtain ⟨k, hk, h1, h2⟩ := ih h0
      exact ⟨k, by omega, h1, h2⟩
theorem lexHead_spec {g : Nat} (f : Nat) : ∀ (k : Nat) (seen : Array Bool), seen.size = ops.size → (∀ j, seen.getD j false = decide (j < k)) → k + f ≤ ops.size → Region.lexHead md ops g f k seen = true →
    (∀ j, k ≤ j → j < k + f → ∃ o, ops[j]? = some o ∧ ∀ e ∈ o.after, Region.binds md e = true → e.on < j) ∧ ∃ full : Array Bool, full.size = ops.size ∧ (∀ j, full.getD j false = decide (j < k + f)) ∧ Region.seqB md ops g (k + f) full = true := by
  induction f with
  | zero => intro k seen hz hs _ hB; exact ⟨fun j h1 h2 => by omega, seen, hz, hs, hB⟩
  | succ f ih =>
    intro k seen hz hs hf hB
    simp only [Region.lexHead, Bool.and_eq_true] at hB
    have hkr : k ∈ Region.ready md ops seen := by simpa using hB.1.1
    obtain ⟨_, o, ho, hall⟩ := mem_ready.1 hkr
    obtain ⟨h1, full, h2, h3, h4⟩ := ih (k + 1) (seen.setIfInBounds k true) (by simpa using hz) (fun j => by
      by_cases e : k = j
      · subst e
        have : k < seen.size := by omega
        simp [this]
      · rw [getD_set_ne false e, hs j]
        exact decide_eq_decide.2 (by omega)) (by omega) hB.2
    refine ⟨fun j hj1 hj2 => ?_, full, h2, fun j => by rw [h3 j]; exact decide_eq_decide.2 (by omega), by rw [show k + (f + 1) = k + 1 + f by omega]; exact h4⟩
    by_cases e : j = k
    · subst e
      refine ⟨o, ho, fun x hx hb => ?_⟩
      have := hall x hx hb
      rw [hs] at this
      simpa using this
    · exact h1 j (by omega) (by omega)
theorem wp_region_inv {id : Nat} {Q : Exit → Act → World → Prop} {a : Act} {w : World} {l : List Oper} (n : Nat) (Inv : Array Bool → Act → World → Prop) (hm : P.follows .mixedOrders = true) (hB : Region.lexTailB .any l.toArray n = true)
    (h0 : Inv (Array.replicate l.toArray.size false) a w.drew)
    (hstep : ∀ seen a w i, i < n → i ∈ Region.ready .any l.toArray seen → i < seen.size → Inv seen a w → wpOp P l.toArray Q i (fun a' w' => Inv (seen.setIfInBounds i true) a' w') a w)
    (hend : ∀ seen a w, (∀ i, i < n → seen.getD i false = true) → Inv seen a w → wpList P l.toArray Q (l.drop n) a w) : (Code.region id l.toArray true).wp P Q a w := by
  simp only [Region.lexTailB, Bool.and_eq_true, decide_eq_true_eq] at hB
  obtain ⟨⟨⟨⟨hns, hn⟩, hsink⟩, hchain⟩, hlex⟩ := hB
  have hsz : l.toArray.size = l.length := by simp
  have hd : (l.drop n).length = l.toArray.size - n := by rw [List.length_drop, hsz]
  obtain ⟨hdeps, full, hfz, hfull, hseq⟩ := lexHead_spec (md := .any) (ops := l.toArray) n 0 _ Array.size_replicate (fun j => by rw [getD_replicate_false]; simp) (by omega) hlex
  rw [Nat.zero_add] at hseq
  have key : ∀ r seen a w, HeadInv .any l.toArray n seen → left seen n = r → Inv seen a w → wpAny P .any l.toArray Q (r + (l.toArray.size - n)) seen a w := by
    intro r
    induction r with
    | zero =>
      intro seen a w inv hr hI
      have hall := left_zero hr
      have hsame : seen = full := by
        refine Array.ext (by rw [inv.size, hfz]) fun j h1 h2 => ?_
        have e1 := hfull j
        have e2 : seen.getD j false = decide (j < 0 + n) := by
          by_cases hj : j < n
          · rw [hall j hj]; simp [hj]
          · have := getD_both (inv.tail j (by omega) (by rw [← inv.size]; exact h1))
            rw [this]; simp [hj]
        rw [← e1] at e2
        simpa [h1, h2] using e2
      have := wpAny_of_seq (md := .any) (Q' := Q) (l.drop n) n seen a w (fun j => by simp [List.getElem?_drop]) (by rw [hd, hsame]; exact hseq) (hend seen a w hall hI)
      rw [hd] at this
      rw [Nat.zero_add]
      exact this
    | succ r ih =>
      intro seen a w inv hr hI
      rw [Nat.add_right_comm]
      obtain ⟨k, hk, hku, hkl⟩ := left_least (seen := seen) (n := n) (by omega)
      have hks : k < seen.size := by rw [inv.size]; omega
      have hkr : k ∈ Region.ready .any l.toArray seen := by
        obtain ⟨o, ho, hb⟩ := hdeps k (by omega) (by omega)
        exact mem_ready.2 ⟨getD_in hks hku, o, ho, fun e he hbe => hkl _ (hb e he hbe)⟩
      refine ⟨fun e => (by rw [e] at hkr; cases hkr), fun i hi => ?_⟩
      have hin : i < n := Nat.lt_of_not_le fun h => tail_waits hsink hchain hn inv _ k rfl hk (getD_in hks hku) i h hi
      have his : i < seen.size := by rw [inv.size]; omega
      refine wpOp_mono (fun a' w' hI' => ih _ a' w' (inv.set hi hin) ?_ hI') (hstep seen a w i hin hi his hI)
      have := left_set his (getD_both (mem_ready.1 hi).1) n hin
      omega
  have inv0 : HeadInv .any l.toArray n (Array.replicate l.toArray.size false) :=
    ⟨Array.size_replicate, fun j p _ hs => (by rw [getD_replicate_false] at hs; cases hs), fun t _ ht' => getD_in (by rw [Array.size_replicate]; exact ht') (getD_replicate_false _ _)⟩
  have H := key n _ a w.drew inv0 (by
    have : ∀ m, left (Array.replicate l.toArray.size false) m = m := fun m => by
      unfold left
      rw [List.countP_eq_length.2 (fun i _ => by rw [getD_replicate_false]; rfl), List.length_range]
    exact this n) h0
  rw [show n + (l.toArray.size - n) = l.toArray.size by omega] at H
  exact wp_region_any hm H
end
end Go.Proofs.YtpfhlhcnmeodbaaDoor
namespace Go.Proofs.YtpfhlhcnmeodbaaDoor
open Go.RowKit
section
variable {P : Program}
def putAll : List Oper → (Nat → Value) → Act → Act
  | [], _, a => a
  | o :: l, V, a => putAll l (fun i => V (i + 1)) (a.put o.dst (V 0))
def apartB : List Oper → Bool
  | [] => true
  | o :: l => l.all (fun p => !(o.dst == p.dst)) && apartB l
def upd (V : Nat → Value) (i : Nat) (v : Value) : Nat → Value := fun j => if j = i then v else V j
theorem upd_same (V : Nat → Value) (i : Nat) (v : Value) : upd V i v i = v := by simp [upd]
theorem upd_ne (V : Nat → Value) {i j : Nat} (v : Value) (h : j ≠ i) : upd V i v j = V j := by simp [upd, h]
theorem put_put (a : Act) (d : Option Tmp) (u v : Value) : (a.put d u).put d v = a.put d v := by
  cases d with
  | none => rfl
  | some d => simp [Act.put]
theorem putAll_put (l : List Oper) (o : Oper) (v : Value) (h : l.all (fun p => !(o.dst == p.dst)) = true) : ∀ (V : Nat → Value) (a : Act), putAll l V (a.put o.dst v) = (putAll l V a).put o.dst v := by
  induction l with
  | nil => intro V a; rfl
  | cons p l ih =>
    intro V a
    simp only [List.all_cons, Bool.and_eq_true] at h
    rw [putAll, putAll, Act.put_comm a v (V 0) (fun d hd e => by rw [hd, e] at h; simp at h), ih h.2]
theorem putAll_upd (l : List Oper) (h : apartB l = true) : ∀ (i : Nat) (o : Oper) (v : Value) (V : Nat → Value) (a : Act), l[i]? = some o → putAll l (upd V i v) a = (putAll l V a).put o.dst v := by
  induction l with
  | nil => intro i o v V a ho; simp at ho
  | cons p l ih =>
    intro i o v V a ho
    simp only [apartB, Bool.and_eq_true] at h
    cases i with
    | zero =>
      obtain rfl : p = o := by simpa using ho
      rw [putAll, putAll, ← putAll_put l p v h.1, put_put]
      rfl
    | succ i =>
      rw [putAll, putAll, ← ih h.2 i o v (fun j => V (j + 1)) _ (by simpa using ho)]
      congr 1
      funext j
      simp [upd]
structure OpWp (P : Program) (o : Oper) (a : Act) (w : World) (K : Act → World → Prop) (Q : Exit → Act → World → Prop) : Prop where
  out : Oper.wp P o a w K Q
structure FreeStep (P : Program) (ops : Array Oper) (Q : Exit → Act → World → Prop) (F : (Nat → Value) → Act) (Inv : (Nat → Bool) → (Nat → Value) → World → Prop) (o : Oper) (i : Nat) : Prop where
  go : ∀ s V w, (∀ e ∈ o.after, Region.binds .any e = true → s e.on = true) → s i = false → Inv s V w →
    ∀ K : Act → World → Prop, (∀ v w', Inv (fun j => s j || j == i) (upd V i v) w' → K ((F V).put o.dst v) w') →
      if Region.wanted o (yielded ops (F V).tmps) = true then Oper.wp P o (F V) w K Q else K ((F V).put o.dst undef) w
def FreeSteps (P : Program) (ops : Array Oper) (Q : Exit → Act → World → Prop) (F : (Nat → Value) → Act) (Inv : (Nat → Bool) → (Nat → Value) → World → Prop) : List Oper → Nat → Prop
  | [], _ => True
  | o :: l, i => FreeStep P ops Q F Inv o i ∧ FreeSteps P ops Q F Inv l (i + 1)
theorem FreeSteps.nil {ops : Array Oper} {Q : Exit → Act → World → Prop} {F : (Nat → Value) → Act} {Inv : (Nat → Bool) → (Nat → Value) → World → Prop} {i : Nat} : FreeSteps P ops Q F Inv [] i := trivial
theorem FreeSteps.cons {ops : Array Oper} {Q : Exit → Act → World → Prop} {F : (Nat → Value) → Act} {Inv : (Nat → Bool) → (Nat → Value) → World → Prop} {o : Oper} {l : List Oper} {i : Nat} (h : FreeStep P ops Q F Inv o i) (hs : FreeSteps P ops Q F Inv l (i + 1)) : FreeSteps P ops Q F Inv (o :: l) i := ⟨h, hs⟩
theorem FreeStep.plain {ops : Array Oper} {Q : Exit → Act → World → Prop} {F : (Nat → Value) → Act} {Inv : (Nat → Bool) → (Nat → Value) → World → Prop} {o : Oper} {i : Nat} (hg : o.guard = none)
    (h : ∀ s V w, (∀ e ∈ o.after, Region.binds .any e = true → s e.on = true) → Inv s V w → ∀ K : Act → World → Prop, (∀ v w', Inv (fun j => s j || j == i) (upd V i v) w' → K ((F V).put o.dst v) w') → OpWp P o (F V) w K Q) : FreeStep P ops Q F Inv o i := ⟨fun s V w hr _ hI K hK => by
  have hw : Region.wanted o (yielded ops (F V).tmps) = true := by simp [Region.wanted, hg]
  rw [if_pos hw]
  exact (h s V w hr hI K hK).out⟩
theorem FreeStep.fresh {ops : Array Oper} {Q : Exit → Act → World → Prop} {F : (Nat → Value) → Act} {Inv : (Nat → Bool) → (Nat → Value) → World → Prop} {o : Oper} {i : Nat} (hg : o.guard = none)
    (h : ∀ s V w, (∀ e ∈ o.after, Region.binds .any e = true → s e.on = true) → s i = false → Inv s V w → ∀ K : Act → World → Prop, (∀ v w', Inv (fun j => s j || j == i) (upd V i v) w' → K ((F V).put o.dst v) w') → OpWp P o (F V) w K Q) : FreeStep P ops Q F Inv o i := ⟨fun s V w hr hu hI K hK => by
  have hw : Region.wanted o (yielded ops (F V).tmps) = true := by simp [Region.wanted, hg]
  rw [if_pos hw]
  exact (h s V w hr hu hI K hK).out⟩
theorem FreeSteps.get {ops : Array Oper} {Q : Exit → Act → World → Prop} {F : (Nat → Value) → Act} {Inv : (Nat → Bool) → (Nat → Value) → World → Prop} (l : List Oper) : ∀ (i k : Nat) (o : Oper), FreeSteps P ops Q F Inv l k → l[i]? = some o → FreeStep P ops Q F Inv o (k + i) := by
  induction l with
  | nil => intro i k o _ ho; simp at ho
  | cons p l ih =>
    intro i k o h ho
    cases i with
    | zero =>
      obtain rfl : p = o := by simpa using ho
      exact h.1
    | succ i =>
      have := ih i (k + 1) o h.2 (by simpa using ho)
      rwa [show k + 1 + i = k + (i + 1) by omega] at this
theorem wp_region_free {id : Nat} {Q : Exit → Act → World → Prop} {a : Act} {w : World} {l : List Oper} (n : Nat) (Inv : (Nat → Bool) → (Nat → Value) → World → Prop) (V0 : Nat → Value) (hm : P.follows .mixedOrders = true) (hB : Region.lexTailB .any l.toArray n = true) (hd : apartB (l.take n) = true)
    (ha : putAll (l.take n) V0 a = a) (h0 : Inv (fun _ => false) V0 w.drew)
    (hstep : FreeSteps P l.toArray Q (fun V => putAll (l.take n) V a) Inv (l.take n) 0)
    (hend : ∀ s V w, (∀ i, i < n → s i = true) → Inv s V w → wpList P l.toArray Q (l.drop n) (putAll (l.take n) V a) w) : (Code.region id l.toArray true).wp P Q a w := by
  have hn : n < l.length := by
    simp only [Region.lexTailB, Bool.and_eq_true, decide_eq_true_eq] at hB
    simpa using hB.1.1.1.2
  refine wp_region_inv n (fun seen a' w' => ∃ V, a' = putAll (l.take n) V a ∧ Inv (fun j => seen.getD j false) V w') hm hB ⟨V0, ha.symm, ?_⟩ ?_ ?_
  · rw [show (fun j => (Array.replicate l.toArray.size false).getD j false) = fun _ => false from funext fun j => getD_replicate_false _ _]
    exact h0
  · rintro seen a' w' i hi hr hs ⟨V, rfl, hI⟩
    obtain ⟨hu, o, ho, hall⟩ := mem_ready.1 hr
    have ho' : (l.take n)[i]? = some o := by
      rw [List.getElem?_take, if_pos hi]
      simpa using ho
    have hF := FreeSteps.get (l.take n) i 0 o hstep ho'
    rw [Nat.zero_add] at hF
    have e : (fun j => (seen.setIfInBounds i true).getD j false) = fun j => seen.getD j false || j == i := funext fun j => by
      by_cases hj : i = j
      · subst hj; simp [hs]
      · rw [getD_set_ne false hj]
        have : (j == i) = false := by simp; omega
        rw [this, Bool.or_false]
    have hF2 := hF.go _ V w' hall (getD_both hu) hI (fun a'' w'' => ∃ V, a'' = putAll (l.take n) V a ∧ Inv (fun j => (seen.setIfInBounds i true).getD j false) V w'') (fun v w'' h => ⟨upd V i v, (putAll_upd _ hd i o v V a ho').symm, by rw [e]; exact h⟩)
    unfold wpOp
    simp only [ho]
    split
    · rename_i hw
      rw [if_pos hw] at hF2
      exact .inl hF2
    · rename_i hw
      rw [if_neg hw] at hF2
      exact hF2
  · rintro seen a' w' hall ⟨V, rfl, hI⟩
    exact hend _ V w' (fun i hi => hall i hi) hI
theorem wpList_load_want {w : World} {ops : Array Oper} {rest : List Oper} {o : Oper} {a : Act} {Q : Exit → Act → World → Prop} (hw : Region.wanted o (yielded ops a.tmps) = true) (ty : TypeId) (x : Operand) (ho : o.op = .load ty x)
    (g : Nat) (k : IntKind) (l : List Nat) (t : TypeId) (d : TypeDesc) (hx : a.eval x = .pointer (some ⟨g, 0, none⟩)) (hg : Blk g t k l w)
    (hu : P.underlying ty = some d) (hd : (match d with | .struct _ | .array _ _ => true | _ => false) = true) (hi : (P.info? ty).map (·.size) = some l.length)
    (h : wpList P ops Q rest (a.put o.dst (.agg (nums k l).toArray)) w) : wpList P ops Q (o :: rest) a w :=
  BigFrame.wpList_want hw fun _ hK => wp_load_row ty x ho g hx t _ _ d hg hu hd (by rw [nums_size]; exact hi) (hK _ _ h)
theorem op_load_nums {o : Oper} {a : Act} {w : World} {K : Act → World → Prop} {Q : Exit → Act → World → Prop} (ty : TypeId) (x : Operand) (ho : o.op = .load ty x) (b : Nat) (k : IntKind) (l : List Nat) (t : TypeId) (d : TypeDesc)
    (hx : a.eval x = .pointer (some ⟨b, 0, none⟩)) (hb : Blk b t k l w) (hu : P.underlying ty = some d) (hd : (match d with | .struct _ | .array _ _ => true | _ => false) = true) (hi : (P.info? ty).map (·.size) = some l.length)
    (h : K (a.put o.dst (.agg (nums k l).toArray)) w) : OpWp P o a w K Q := by
  refine ⟨?_⟩
  unfold Oper.wp execOp
  simp only [ho, hx, Instr.loadAt, Instr.sureAddr, Sem.run_bind, Sem.run_pure, Result.andThen_ok, run_loadVar_row w b t ty _ (0, 0) d hb hu hd (by rw [nums_size]; exact hi)]
  exact h
theorem op_move {o : Oper} {a : Act} {w : World} {K : Act → World → Prop} {Q : Exit → Act → World → Prop} (x : Operand) (ho : o.op = .move x) (v : Value) (hx : a.eval x = v) (h : K (a.put o.dst v) w) : OpWp P o a w K Q := by
  refine ⟨?_⟩
  unfold Oper.wp execOp
  simp only [ho, hx, Sem.run_pure]
  exact h
theorem cons_eq {α : Type} {a b : α} {l m : List α} (h : a = b) (h2 : l = m) : a :: l = b :: m := by rw [h, h2]
structure Shut (p : Prop) : Prop where
  out : p
theorem op_call {o : Oper} {a : Act} {w : World} {K : Act → World → Prop} {Q : Exit → Act → World → Prop} {f : FuncId} {fn : Func} (hf : P.funcs[f]? = some fn) (hname : (fn.name == "runtime.NumGoroutine") = false) (hb : fn.body.isNone = false)
    {args : Array Operand} {ts : Array TypeId} (ho : o.op = .call { callee := .value (.func f), args := args, argTypes := ts }) (vs : List Value) (hv : args.toList.map a.eval = vs) {C : Ending → World → Prop}
    (hc : Calls P f vs.toArray w C) (h : ∀ e w', C e w' → ∃ v, e = .returned v ∧ K (a.put o.dst v) w') : OpWp P o a w K Q := by
  have hr : (execOp a.eval o).run P w = .ok (.enter f vs.toArray) w := by
    obtain ⟨dst, op, ty, pos, after, guard⟩ := o
    simp only at ho
    subst ho
    rw [execOp_call_go, show args.map a.eval = vs.toArray by rw [← hv, ← Array.toList_map, Array.toArray_toList], Array.append_empty, Array.empty_append]
    have h1 : ¬ fn.name = "runtime.NumGoroutine" := by simpa using hname
    have h2 : ¬ fn.body = none := by intro e; rw [e] at hb; cases hb
    simp [callFunc, Sem.run_bind, hf, h1, h2, go_sem]
  refine ⟨?_⟩
  unfold Oper.wp
  rw [hr, Oper.upon_enter]
  refine hc.mono fun e w' he => ?_
  obtain ⟨v, rfl, hk⟩ := h e w' he
  exact hk
theorem op_alloc {o : Oper} {a : Act} {w : World} {K : Act → World → Prop} {Q : Exit → Act → World → Prop} (ty : TypeId) (ho : o.op = .alloc ty) (z : Array Value) (hz : ∀ w, (Instr.alloc ty true (.tuple #[])).run P w = .ok (.pointer (some ⟨w.heap.size, 0, none⟩)) (w.alloc (.cells z ty)))
    (h : K (a.put o.dst (.pointer (some ⟨w.heap.size, 0, none⟩))) (w.alloc (.cells z ty))) : OpWp P o a w K Q := by
  refine ⟨?_⟩
  unfold Oper.wp execOp
  simp only [ho, Sem.run_bind, Sem.run_pure, Result.andThen_ok, hz]
  exact h
def Cells (b : Nat) (t : TypeId) (cs : Array Value) (w : World) : Prop := w.heap[b]? = some (.cells cs t (0, 0))
theorem Cells.lt {b : Nat} {t : TypeId} {cs : Array Value} {w : World} (h : Cells b t cs w) : b < w.heap.size := lt_of_block h
theorem Cells.below {b : Nat} {t : TypeId} {cs : Array Value} {w w' : World} (h : Cells b t cs w) (hb : Below w.heap.size w w') : Cells b t cs w' := (hb.block b h.lt).trans h
theorem Cells.alloc {b : Nat} {t : TypeId} {cs : Array Value} {w : World} (h : Cells b t cs w) (o : Obj) : Cells b t cs (w.alloc o) := (heap_alloc_old w o h.lt).trans h
theorem quiet_load_cells {o : Oper} {a : Act} {C : World → Prop} {K : Act → Prop} (ty : TypeId) (x : Operand) (ho : o.op = .load ty x) (b : Nat) (cs : Array Value) (t : TypeId) (d : TypeDesc)
    (hx : a.eval x = .pointer (some ⟨b, 0, none⟩)) (hC : ∀ w, C w → Cells b t cs w) (hu : P.underlying ty = some d) (hd : (match d with | .struct _ | .array _ _ => true | _ => false) = true) (hi : (P.info? ty).map (·.size) = some cs.size)
    (hk : K (a.put o.dst (.agg cs))) : o.quiet P a C K := by
  refine ⟨_, fun w hw => ?_, hk⟩
  unfold Oper.quietAt execOp
  simp only [ho, hx, Instr.loadAt, Instr.sureAddr, Sem.run_bind, Sem.run_pure, Result.andThen_ok, run_loadVar_row w b t ty _ (0, 0) d (hC w hw) hu hd hi]
  exact ⟨rfl, rfl⟩
theorem wpList_load_cells {w : World} {ops : Array Oper} {rest : List Oper} {o : Oper} {a : Act} {Q : Exit → Act → World → Prop} (hgd : o.guard = none) (ty : TypeId) (x : Operand) (ho : o.op = .load ty x)
    (g : Nat) (cs : Array Value) (t : TypeId) (d : TypeDesc) (hx : a.eval x = .pointer (some ⟨g, 0, none⟩)) (hg : Cells g t cs w)
    (hu : P.underlying ty = some d) (hd : (match d with | .struct _ | .array _ _ => true | _ => false) = true) (hi : (P.info? ty).map (·.size) = some cs.size)
    (h : wpList P ops Q rest (a.put o.dst (.agg cs)) w) : wpList P ops Q (o :: rest) a w :=
  wpList_load_row hgd ty x ho g hx t _ _ d hg hu hd hi h
theorem wpList_store_cells {w : World} {ops : Array Oper} {rest : List Oper} {o : Oper} {a : Act} {Q : Exit → Act → World → Prop} (hgd : o.guard = none) (ty : TypeId) (x y : Operand) (ho : o.op = .store ty x y)
    (hd : o.dst = none) (g : Nat) (cs cs' : Array Value) (t : TypeId) (hx : a.eval x = .pointer (some ⟨g, 0, none⟩)) (hy : a.eval y = .agg cs')
    (hg : Cells g t cs w) (hi : (P.info? ty).map (·.size) = some cs'.size) (hl : cs.size = cs'.size) (h1 : cs'.all (·.oneCell') = true)
    (h : ∀ w', Hid (Cells g t cs' w') → Hid (But g w w') → wpList P ops Q rest a w') : wpList P ops Q (o :: rest) a w :=
  wpList_store_rowTo hgd ty x y ho hd g cs' hx hy t _ hg hi hl h1 (h _ (setRow_heap _ _ _ _ _ _ hg) ((But.refl g w).setRow _))
theorem op_load_cells {o : Oper} {a : Act} {w : World} {K : Act → World → Prop} {Q : Exit → Act → World → Prop} (ty : TypeId) (x : Operand) (ho : o.op = .load ty x) (b : Nat) (cs : Array Value) (t : TypeId) (d : TypeDesc)
    (hx : a.eval x = .pointer (some ⟨b, 0, none⟩)) (hb : Cells b t cs w) (hu : P.underlying ty = some d) (hd : (match d with | .struct _ | .array _ _ => true | _ => false) = true) (hi : (P.info? ty).map (·.size) = some cs.size)
    (h : K (a.put o.dst (.agg cs)) w) : OpWp P o a w K Q := by
  refine ⟨?_⟩
  unfold Oper.wp execOp
  simp only [ho, hx, Instr.loadAt, Instr.sureAddr, Sem.run_bind, Sem.run_pure, Result.andThen_ok, run_loadVar_row w b t ty _ (0, 0) d hb hu hd hi]
  exact h
def Val (s : Nat → Bool) (V : Nat → Value) (i : Nat) (v : Value) : Prop := s i = true → V i = v
def New (s : Nat → Bool) (V : Nat → Value) (B i : Nat) (t : TypeId) (k : IntKind) (l : List Nat) (w : World) : Prop := s i = true → ∃ g, V i = .pointer (some ⟨g, 0, none⟩) ∧ B ≤ g ∧ Blk g t k l w
theorem Val.none {V : Nat → Value} {i : Nat} {v : Value} : Val (fun _ => false) V i v := fun h => by cases h
theorem New.none {V : Nat → Value} {B i : Nat} {t : TypeId} {k : IntKind} {l : List Nat} {w : World} : New (fun _ => false) V B i t k l w := fun h => by cases h
theorem seen_ne {s : Nat → Bool} {i j : Nat} (hne : j ≠ i) (h : (s j || j == i) = true) : s j = true := by
  have : (j == i) = false := by simpa using hne
  rwa [this, Bool.or_false] at h
theorem Val.same {s : Nat → Bool} {V : Nat → Value} {i : Nat} {v : Value} : Val (fun j => s j || j == i) (upd V i v) i v := fun _ => upd_same _ _ _
theorem Val.ne {s : Nat → Bool} {V : Nat → Value} {i j : Nat} {v u : Value} (h : Val s V j v) (hne : j ≠ i) : Val (fun j => s j || j == i) (upd V i u) j v := fun hs => by
  rw [upd_ne V u hne]
  exact h (seen_ne hne hs)
theorem New.ne {s : Nat → Bool} {V : Nat → Value} {B i j : Nat} {t : TypeId} {k : IntKind} {l : List Nat} {w w' : World} {u : Value} (h : New s V B j t k l w) (hne : j ≠ i) (hb : Below w.heap.size w w') : New (fun j => s j || j == i) (upd V i u) B j t k l w' := fun hs => by
  obtain ⟨g, e, hg, hk⟩ := h (seen_ne hne hs)
  exact ⟨g, by rw [upd_ne V u hne]; exact e, hg, hk.below hb⟩
theorem New.same {s : Nat → Bool} {V : Nat → Value} {B i : Nat} {t : TypeId} {k : IntKind} {l : List Nat} {w : World} (hB : B ≤ w.heap.size) : New (fun j => s j || j == i) (upd V i (.pointer (some ⟨w.heap.size, 0, Option.none⟩))) B i t k l (w.alloc (.cells (nums k l).toArray t)) :=
  fun _ => ⟨w.heap.size, upd_same _ _ _, hB, heap_alloc_new w _⟩
end
end Go.Proofs.YtpfhlhcnmeodbaaDoor
namespace Go.Proofs.YtpfhlhcnmeodbaaDoor
open Go.RowKit
theorem at_three (w : World) (p q r : List UInt8) : StrsAt (some ⟨w.heap.size, 0, none⟩) [p, q, r] (w.alloc (.cells #[.string ⟨p.toArray⟩, .string ⟨q.toArray⟩, .string ⟨r.toArray⟩] 9)) := by
  refine strsAt_own (B := w.heap.size) (c := 3) ?_
  exact World.ownsRow_lit (base := w.heap.size) (e := 9) (size := 1) w #[.string ⟨p.toArray⟩, .string ⟨q.toArray⟩, .string ⟨r.toArray⟩] 3 (Nat.le_refl _) (by unfold maxLen; omega) rfl
theorem cat2 (l s : List UInt8) : (({ data := l.toArray } : ByteArray) ++ { data := s.toArray }) = { data := (l ++ s).toArray } := by
  rw [ByteArray.ext_iff]; simp
theorem quiet_conv_nums {P : Program} {o : Oper} {a : Act} {C : World → Prop} {K : Act → Prop} (src dst e : TypeId) (x : Operand) (ho : o.op = .convert src dst x) (b cap : Nat) (l : List Nat) (t : TypeId)
    (hx : a.eval x = .slice (some ⟨b, 0, none⟩) l.length cap) (hl : ∀ y ∈ l, y < 256) (hC : ∀ w, C w → Blk b t .u8 l w) (hs : P.underlying src = some (.slice e)) (he : P.underlying e = some (.int .u8)) (hd : P.underlying dst = some .string)
    (hk : K (a.put o.dst (.string ⟨(txt l).toArray⟩))) : o.quiet P a C K := by
  refine ⟨_, fun w hw => ?_, hk⟩
  have hc := run_convert_bytes_back (P := P) w src dst e ⟨b, 0, none⟩ cap (txt l) hs he hd (fun j hj => by
    rw [txt_len] at hj
    rw [Addr.add_lit, Nat.zero_add, (hC w hw).cell j hj, List.getD_eq_getElem?_getD, List.getElem?_eq_getElem hj]
    have h1 := hl _ (List.getElem_mem hj)
    simp only [txt, List.getElem_map, Option.getD_some]
    rw [show (UInt8.ofNat l[j]).toNat = l[j] by simp; omega])
  rw [txt_len] at hc
  unfold Oper.quietAt execOp
  simp only [ho, hx, Sem.run_bind, Sem.run_pure, hc, Result.andThen_ok]
  exact ⟨rfl, rfl⟩
theorem run_loadVar_cell {P : Program} (w : World) (ty : TypeId) (p : Addr) (v : Value) (hc : w.cell? p = some v) (hi : ∀ w, (isAgg ty).run P w = .ok false w) : (loadVar ty p).run P w = .ok v w := by
  simp [loadVar, hi, hc, go_sem]
theorem quiet_load_cell {P : Program} {o : Oper} {a : Act} {C : World → Prop} {K : Act → Prop} (ty : TypeId) (x : Operand) (ho : o.op = .load ty x) (p : Addr) (v : Value)
    (hx : a.eval x = .pointer (some p)) (hC : ∀ w, C w → w.cell? p = some v) (hi : ∀ w, (isAgg ty).run P w = .ok false w) (hk : K (a.put o.dst v)) : o.quiet P a C K := by
  refine ⟨_, fun w hw => ?_, hk⟩
  unfold Oper.quietAt execOp
  simp only [ho, hx, Instr.loadAt, Instr.sureAddr, Sem.run_bind, Sem.run_pure, Result.andThen_ok, run_loadVar_cell w ty p v (hC w hw) hi]
  exact ⟨rfl, rfl⟩
theorem two_new (w : World) (l m : List Nat) (t u : TypeId) : Blk w.heap.size t .u8 l ((w.alloc (.cells (nums .u8 l).toArray t)).alloc (.cells (nums .u8 m).toArray u)) ∧
    Blk (w.heap.size + 1) u .u8 m ((w.alloc (.cells (nums .u8 l).toArray t)).alloc (.cells (nums .u8 m).toArray u)) ∧ Below w.heap.size w ((w.alloc (.cells (nums .u8 l).toArray t)).alloc (.cells (nums .u8 m).toArray u)) := by
  have h1 : Blk w.heap.size t .u8 l (w.alloc (.cells (nums .u8 l).toArray t)) := heap_alloc_new w _
  have h2 : Blk (w.heap.size + 1) u .u8 m ((w.alloc (.cells (nums .u8 l).toArray t)).alloc (.cells (nums .u8 m).toArray u)) := by
    have h := heap_alloc_new (w.alloc (.cells (nums .u8 l).toArray t)) (.cells (nums .u8 m).toArray u)
    rw [World.size_alloc] at h
    exact h
  exact ⟨h1.alloc _, h2, ((Below.refl _ w).alloc (Nat.le_refl _) _).alloc (by simp) _⟩
theorem place_new (w : World) (l m : List Nat) (a : Array Value) (t v u : TypeId) :
    Blk w.heap.size t .u8 l (((w.alloc (.cells (nums .u8 l).toArray t)).alloc (.cells a v)).alloc (.cells (nums .u8 m).toArray u)) ∧
    (((w.alloc (.cells (nums .u8 l).toArray t)).alloc (.cells a v)).alloc (.cells (nums .u8 m).toArray u)).heap[w.heap.size + 1]? = some (.cells a v (0, 0)) ∧
    Blk (w.heap.size + 2) u .u8 m (((w.alloc (.cells (nums .u8 l).toArray t)).alloc (.cells a v)).alloc (.cells (nums .u8 m).toArray u)) ∧
    Below w.heap.size w (((w.alloc (.cells (nums .u8 l).toArray t)).alloc (.cells a v)).alloc (.cells (nums .u8 m).toArray u)) := by
  have h1 : Blk w.heap.size t .u8 l (w.alloc (.cells (nums .u8 l).toArray t)) := heap_alloc_new w _
  have h2 : ((w.alloc (.cells (nums .u8 l).toArray t)).alloc (.cells a v)).heap[w.heap.size + 1]? = some (.cells a v (0, 0)) := by
    have h := heap_alloc_new (w.alloc (.cells (nums .u8 l).toArray t)) (.cells a v)
    rw [World.size_alloc] at h
    exact h
  have h3 : Blk (w.heap.size + 2) u .u8 m (((w.alloc (.cells (nums .u8 l).toArray t)).alloc (.cells a v)).alloc (.cells (nums .u8 m).toArray u)) := by
    have h := heap_alloc_new ((w.alloc (.cells (nums .u8 l).toArray t)).alloc (.cells a v)) (.cells (nums .u8 m).toArray u)
    rw [World.size_alloc, World.size_alloc] at h
    exact h
  exact ⟨(h1.alloc _).alloc _, (heap_alloc_old _ _ (lt_of_block h2)).trans h2, h3, (((Below.refl _ w).alloc (Nat.le_refl _) _).alloc (by simp) _).alloc (by simp; omega) _⟩
theorem wpList_append_nums {P : Program} {w : World} {ops : Array Oper} {rest : List Oper} {o : Oper} {a : Act} {Q : Exit → Act → World → Prop} (hgd : o.guard = none) (s x : Operand) (t e : TypeId)
    (ho : o.op = .call { callee := .builtin .append, args := #[s, x], argTypes := #[t, t] })
    (B : Nat) (k : IntKind) (bytes : Nat) (ht : P.underlying t = some (.slice e)) (hinfo : (P.info? e).map (fun i => (i.zero, i.size, i.bytes)) = some (some (.int k 0), 1, bytes))
    (v : Value) (l m : List Nat) (ad : Addr) (n c : Nat) (hn : n = m.length) (hs : a.eval s = v) (hown : OwnN B e k v l w) (hx : a.eval x = .slice (some ad) n c) (hnews : ∀ j u, (nums k m)[j]? = some u → w.cell? (ad.add j) = some u)
    (h63 : l.length + m.length ≤ maxLen) (hbytes : (l.length + m.length) * bytes ≤ 140737488355328) (hB : B ≤ w.heap.size)
    (h : ∀ v' w', Hid (OwnN B e k v' (l ++ m) w') → Hid (Below B w w') → wpList P ops Q rest (a.put o.dst v') w') : wpList P ops Q (o :: rest) a w := by
  obtain ⟨i, hi, hz0, hz1, hz2⟩ := info_parts hinfo
  subst hn
  refine wpList_append_own_at w hgd s x _ ho B e i (.int k 0) 1 bytes ht hi hz0 hz1 hz2 rfl (by decide) v l.length (nums k l) hs hown ad m.length c (nums k m) hx (by rw [nums_len, Nat.mul_one]) hnews (nums_one k m) h63 hbytes hB ?_
  intro v' w' h2 hg _ _
  refine h v' w' ?_ ((Below.refl B w).grown hg hB (fun k hk => (World.ownsRow.lt hown k hk).1))
  show w'.ownsRow B e 1 v' (l ++ m).length (nums k (l ++ m))
  rw [List.length_append, show nums k (l ++ m) = nums k l ++ nums k m by simp [nums]]
  exact h2
theorem cells_nums_new (w : World) (a : Array Value) (t : TypeId) (k : IntKind) (l : List Nat) (u : TypeId) : Cells w.heap.size t a ((w.alloc (.cells a t)).alloc (.cells (nums k l).toArray u)) ∧
    Blk (w.heap.size + 1) u k l ((w.alloc (.cells a t)).alloc (.cells (nums k l).toArray u)) ∧ Below w.heap.size w ((w.alloc (.cells a t)).alloc (.cells (nums k l).toArray u)) := by
  have h1 : Cells w.heap.size t a (w.alloc (.cells a t)) := heap_alloc_new w _
  have h2 : Blk (w.heap.size + 1) u k l ((w.alloc (.cells a t)).alloc (.cells (nums k l).toArray u)) := by
    have h := heap_alloc_new (w.alloc (.cells a t)) (.cells (nums k l).toArray u)
    rw [World.size_alloc] at h
    exact h
  exact ⟨h1.alloc _, h2, ((Below.refl _ w).alloc (Nat.le_refl _) _).alloc (by simp) _⟩
theorem blk_news {g : Nat} {t : TypeId} {k : IntKind} {l : List Nat} {w : World} (h : Blk g t k l w) : ∀ j u, (nums k l)[j]? = some u → w.cell? ((⟨g, 0, none⟩ : Addr).add j) = some u := by
  intro j u hj
  rw [Addr.add_lit, Nat.zero_add, Lib.cell_of_heap h j, List.getElem?_toArray]
  exact hj
theorem conv_row {B n : Nat} {cp : Nat} {ao : Option Addr} {w : World} (l : List Nat) (hn : n = l.length) (h0 : 0 < l.length) (hlt : ∀ x ∈ l, x < 256) (h : OwnN B 5 .u8 (.slice ao n cp) l w) :
    (convert 73 9 (.slice ao n cp)).run Tryd.prog w = .ok (.string ⟨(txt l).toArray⟩) w := by
  obtain ⟨g, c2, hv, _, _⟩ := h.formB h0
  have hlen : l.length = (txt l).length := (txt_len _).symm
  obtain rfl : ao = some ⟨g, 0, none⟩ := by injection hv
  have hc := World.ownsRow.cells h (g := g) rfl
  rw [hn, hlen]
  refine run_convert_bytes_back _ _ _ 5 ⟨g, 0, none⟩ _ (txt l) Tryd.underlying73 Tryd.underlying5 Tryd.underlying9 ?_
  intro j hj
  refine hc j _ ?_
  have e : nums .u8 l = (txt l).map fun b => Value.int .u8 (b.toNat : Int) := by
    rw [← byteNs_nums, byteNs_txt hlt]
  rw [e, List.getElem?_map, List.getElem?_eq_getElem hj]
  rfl
theorem results_nums_tmp {P : Program} {fn : Func} {p u : Tmp} {ty : TypeId} (h : fn.results = #[.cell p ty, .tmp u]) (tmps : Array Value) (w : World) (g : Nat) (k : IntKind) (l : List Nat) (t : TypeId) (d : TypeDesc) (v : Value)
    (hp : tmps.getD p undef = .pointer (some ⟨g, 0, none⟩)) (hv : tmps.getD u undef = v) (hg : Blk g t k l w)
    (hu : P.underlying ty = some d) (hd : (match d with | .struct _ | .array _ _ => true | _ => false) = true) (hi : (P.info? ty).map (·.size) = some l.length) :
    (results fn tmps).run P w = .ok (.tuple #[.agg (nums k l).toArray, v]) w := by
  rw [results_cell_tmp h, hp, hv]
  simp [asAddr, Result.andThen, run_loadVar_row w g t ty _ (0, 0) d hg hu hd (by rw [nums_size]; exact hi)]
end Go.Proofs.YtpfhlhcnmeodbaaDoor
namespace Go.Proofs.YtpfhlhcnmeodbaaDoor
open Go.RowKit
def rotr (x k : Nat) : Nat := x / 2 ^ k ||| x * 2 ^ (32 - k) % 4294967296
theorem rotr_lt (x k : Nat) (hx : x < 4294967296) : rotr x k < 4294967296 := by
  unfold rotr
  have h1 : x / 2 ^ k < 2 ^ 32 := Nat.lt_of_le_of_lt (Nat.div_le_self _ _) hx
  have h2 : x * 2 ^ (32 - k) % 4294967296 < 2 ^ 32 := Nat.mod_lt _ (by decide)
  exact Nat.or_lt_two_pow h1 h2
def sqOk (p y : Nat) : Bool := decide (y * y / 18446744073709551616 < p) || (decide (y * y / 18446744073709551616 = p) && decide (y * y % 18446744073709551616 = 0))
def cbLow (y : Nat) : Nat := y * y / 18446744073709551616 * y + y * y % 18446744073709551616 * y / 18446744073709551616
def cbOk (p y : Nat) : Bool := decide (cbLow y / 4294967296 < p) || (decide (cbLow y / 4294967296 = p) && (decide (cbLow y % 4294967296 = 0) && decide (y * y % 18446744073709551616 * y % 18446744073709551616 = 0)))
def bitAt (j : Nat) : Nat := 68719476736 / 2 ^ j
def rootT (p : Nat) (cube : Bool) (y : Nat) : Bool := if cube then cbOk p y else sqOk p y
def rootX (p : Nat) (cube : Bool) : Nat → Nat
  | 0 => 0
  | j + 1 => if rootT p cube (rootX p cube j + bitAt j) then rootX p cube j + bitAt j else rootX p cube j
end Go.Proofs.YtpfhlhcnmeodbaaDoor
namespace Go.Proofs.YtpfhlhcnmeodbaaDoor
open Go.RowKit
def shaK : List Nat := [1116352408, 1899447441, 3049323471, 3921009573, 961987163, 1508970993, 2453635748, 2870763221, 3624381080, 310598401, 607225278, 1426881987, 1925078388, 2162078206, 2614888103, 3248222580, 3835390401, 4022224774, 264347078, 604807628, 770255983, 1249150122, 1555081692, 1996064986, 2554220882, 2821834349, 2952996808, 3210313671, 3336571891, 3584528711, 113926993, 338241895, 666307205, 773529912, 1294757372, 1396182291, 1695183700, 1986661051, 2177026350, 2456956037, 2730485921, 2820302411, 3259730800, 3345764771, 3516065817, 3600352804, 4094571909, 275423344, 430227734, 506948616, 659060556, 883997877, 958139571, 1322822218, 1537002063, 1747873779, 1955562222, 2024104815, 2227730452, 2361852424, 2428436474, 2756734187, 3204031479, 3329325298]
theorem shaK_len : shaK.length = 64 := by decide
theorem shaK_lt : ∀ x ∈ shaK, x < 4294967296 := by decide
end Go.Proofs.YtpfhlhcnmeodbaaDoor
namespace Go.Proofs.YtpfhlhcnmeodbaaDoor
open Go.RowKit
def s0 (x : Nat) : Nat := rotr x 7 ^^^ rotr x 18 ^^^ x / 8
def s1 (x : Nat) : Nat := rotr x 17 ^^^ rotr x 19 ^^^ x / 1024
def S1 (x : Nat) : Nat := rotr x 6 ^^^ rotr x 11 ^^^ rotr x 25
def S0 (x : Nat) : Nat := rotr x 2 ^^^ rotr x 13 ^^^ rotr x 22
def ch (e f g : Nat) : Nat := (e &&& f) ^^^ ((4294967295 ^^^ e) &&& g)
def mj (a b c : Nat) : Nat := (a &&& b) ^^^ (a &&& c) ^^^ (b &&& c)
theorem xor_lt {a b : Nat} (ha : a < 4294967296) (hb : b < 4294967296) : a ^^^ b < 4294967296 := Nat.xor_lt_two_pow (n := 32) ha hb
theorem and_lt {a b : Nat} (hb : b < 4294967296) : a &&& b < 4294967296 := Nat.lt_of_le_of_lt Nat.and_le_right hb
def wordN (b : Nat → Nat) (i : Nat) : Nat := b (4 * i) * 16777216 + b (4 * i + 1) * 65536 + b (4 * i + 2) * 256 + b (4 * i + 3)
def nextW (l : List Nat) (i : Nat) : Nat := (l.getD (i - 16) 0 + l.getD (i - 7) 0 + s0 (l.getD (i - 15) 0) + s1 (l.getD (i - 2) 0)) % 4294967296
def wl (b : Nat → Nat) : Nat → List Nat
  | 0 => []
  | i + 1 => wl b i ++ [if i < 16 then wordN b i else nextW (wl b i) i]
theorem wl_len (b : Nat → Nat) (i : Nat) : (wl b i).length = i := by
  induction i with
  | zero => rfl
  | succ i ih => rw [wl, List.length_append, ih]; rfl
theorem wl_word {b : Nat → Nat} {i : Nat} (h : i < 16) : wl b (i + 1) = wl b i ++ [wordN b i] := by rw [wl, if_pos h]
theorem wl_next {b : Nat → Nat} {i : Nat} (h : ¬ i < 16) : wl b (i + 1) = wl b i ++ [nextW (wl b i) i] := by rw [wl, if_neg h]
theorem wordN_lt {b : Nat → Nat} (hb : ∀ j, b j < 256) (i : Nat) : wordN b i < 4294967296 := by
  have h0 := hb (4 * i)
  have h1 := hb (4 * i + 1)
  have h2 := hb (4 * i + 2)
  have h3 := hb (4 * i + 3)
  unfold wordN
  omega
theorem wl_lt {b : Nat → Nat} (hb : ∀ j, b j < 256) (i : Nat) : ∀ x ∈ wl b i, x < 4294967296 := by
  induction i with
  | zero => intro x h; cases h
  | succ i ih =>
    intro x h
    rw [wl, List.mem_append] at h
    rcases h with h | h
    · exact ih x h
    · rw [List.mem_singleton] at h
      subst h
      split
      · exact wordN_lt hb i
      · exact Nat.mod_lt _ (by decide)
structure S8 where
  (a b c d e f g h : Nat)
def S8.list (v : S8) : List Nat := [v.a, v.b, v.c, v.d, v.e, v.f, v.g, v.h]
structure S8.Ok (v : S8) : Prop where
  a : v.a < 4294967296
  b : v.b < 4294967296
  c : v.c < 4294967296
  d : v.d < 4294967296
  e : v.e < 4294967296
  f : v.f < 4294967296
  g : v.g < 4294967296
  h : v.h < 4294967296
def tN (v : S8) (k w : Nat) : Nat := (v.h + S1 v.e + ch v.e v.f v.g + k + w) % 4294967296
def uN (v : S8) : Nat := (S0 v.a + mj v.a v.b v.c) % 4294967296
def rnd (v : S8) (k w : Nat) : S8 := ⟨(tN v k w + uN v) % 4294967296, v.a, v.b, v.c, (v.d + tN v k w) % 4294967296, v.e, v.f, v.g⟩
theorem rnd_ok {v : S8} (h : v.Ok) (k w : Nat) : (rnd v k w).Ok := ⟨Nat.mod_lt _ (by decide), h.a, h.b, h.c, Nat.mod_lt _ (by decide), h.e, h.f, h.g⟩
def rl (v : S8) (W : List Nat) : Nat → S8
  | 0 => v
  | i + 1 => rnd (rl v W i) (shaK.getD i 0) (W.getD i 0)
theorem rl_ok {v : S8} (h : v.Ok) (W : List Nat) (i : Nat) : (rl v W i).Ok := by
  induction i with
  | zero => exact h
  | succ i ih => exact rnd_ok ih _ _
def addS (v u : S8) : S8 := ⟨(v.a + u.a) % 4294967296, (v.b + u.b) % 4294967296, (v.c + u.c) % 4294967296, (v.d + u.d) % 4294967296, (v.e + u.e) % 4294967296, (v.f + u.f) % 4294967296, (v.g + u.g) % 4294967296, (v.h + u.h) % 4294967296⟩
theorem addS_ok (v u : S8) : (addS v u).Ok :=
  ⟨Nat.mod_lt _ (by decide), Nat.mod_lt _ (by decide), Nat.mod_lt _ (by decide), Nat.mod_lt _ (by decide), Nat.mod_lt _ (by decide), Nat.mod_lt _ (by decide), Nat.mod_lt _ (by decide), Nat.mod_lt _ (by decide)⟩
def H0 : S8 := ⟨1779033703, 3144134277, 1013904242, 2773480762, 1359893119, 2600822924, 528734635, 1541459225⟩
theorem H0_ok : H0.Ok := ⟨by decide, by decide, by decide, by decide, by decide, by decide, by decide, by decide⟩
def block (v : S8) (b : Nat → Nat) : S8 := addS v (rl v (wl b 64) 64)
theorem t_int (a b c d e f g h k w : Nat) (he : e < 4294967296) (hf : f < 4294967296) (hg : g < 4294967296) :
    ((h : Int) + bits BinOp.xor IntKind.u32 (bits BinOp.xor IntKind.u32 ((rotr e 6 : Nat) : Int) ((rotr e 11 : Nat) : Int)) ((rotr e 25 : Nat) : Int) +
      bits BinOp.xor IntKind.u32 (bits BinOp.and IntKind.u32 (e : Int) (f : Int)) (bits BinOp.and IntKind.u32 (bits BinOp.xor IntKind.u32 IntKind.u32.max (e : Int)) (g : Int)) + (k : Int) + (w : Int)) % 4294967296 =
    ((tN ⟨a, b, c, d, e, f, g, h⟩ k w : Nat) : Int) := by
  have hm : IntKind.u32.max = ((4294967295 : Nat) : Int) := by decide
  rw [hm, u32_xor_nat _ _ (rotr_lt _ _ he) (rotr_lt _ _ he), u32_xor_nat _ _ (xor_lt (rotr_lt _ _ he) (rotr_lt _ _ he)) (rotr_lt _ _ he), u32_and_nat _ _ he hf, u32_xor_nat _ _ (by decide) he, u32_and_nat _ _ (xor_lt (by decide) he) hg, u32_xor_nat _ _ (and_lt hf) (and_lt hg)]
  unfold tN S1 ch
  simp only [Int.natCast_emod, Int.natCast_add]
  rfl
theorem u_int (a b c d e f g h : Nat) (ha : a < 4294967296) (hb : b < 4294967296) (hc : c < 4294967296) :
    (bits BinOp.xor IntKind.u32 (bits BinOp.xor IntKind.u32 ((rotr a 2 : Nat) : Int) ((rotr a 13 : Nat) : Int)) ((rotr a 22 : Nat) : Int) +
      bits BinOp.xor IntKind.u32 (bits BinOp.xor IntKind.u32 (bits BinOp.and IntKind.u32 (a : Int) (b : Int)) (bits BinOp.and IntKind.u32 (a : Int) (c : Int))) (bits BinOp.and IntKind.u32 (b : Int) (c : Int))) % 4294967296 =
    ((uN ⟨a, b, c, d, e, f, g, h⟩ : Nat) : Int) := by
  rw [u32_xor_nat _ _ (rotr_lt _ _ ha) (rotr_lt _ _ ha), u32_xor_nat _ _ (xor_lt (rotr_lt _ _ ha) (rotr_lt _ _ ha)) (rotr_lt _ _ ha), u32_and_nat _ _ ha hb, u32_and_nat _ _ ha hc, u32_and_nat _ _ hb hc, u32_xor_nat _ _ (and_lt hb) (and_lt hc), u32_xor_nat _ _ (xor_lt (and_lt hb) (and_lt hc)) (and_lt hc)]
  unfold uN S0 mj
  simp only [Int.natCast_emod, Int.natCast_add]
  rfl
theorem w_int (y16 y7 y15 y2 : Nat) (h15 : y15 < 4294967296) (h2 : y2 < 4294967296) (h3 : y15 / 8 < 4294967296) (h4 : y2 / 1024 < 4294967296) :
    ((y16 : Int) + (y7 : Int) + bits BinOp.xor IntKind.u32 (bits BinOp.xor IntKind.u32 ((rotr y15 7 : Nat) : Int) ((rotr y15 18 : Nat) : Int)) ((y15 / 8 : Nat) : Int) +
      bits BinOp.xor IntKind.u32 (bits BinOp.xor IntKind.u32 ((rotr y2 17 : Nat) : Int) ((rotr y2 19 : Nat) : Int)) ((y2 / 1024 : Nat) : Int)) % 4294967296 =
    (((y16 + y7 + s0 y15 + s1 y2) % 4294967296 : Nat) : Int) := by
  rw [u32_xor_nat _ _ (rotr_lt _ _ h15) (rotr_lt _ _ h15), u32_xor_nat _ _ (xor_lt (rotr_lt _ _ h15) (rotr_lt _ _ h15)) h3, u32_xor_nat _ _ (rotr_lt _ _ h2) (rotr_lt _ _ h2), u32_xor_nat _ _ (xor_lt (rotr_lt _ _ h2) (rotr_lt _ _ h2)) h4]
  unfold s0 s1
  simp only [Int.natCast_emod, Int.natCast_add]
  rfl
theorem tN_lt (v : S8) (k w : Nat) : tN v k w < 4294967296 := Nat.mod_lt _ (by decide)
theorem uN_lt (v : S8) : uN v < 4294967296 := Nat.mod_lt _ (by decide)
def blocks (p : List Nat) : Nat → S8
  | 0 => H0
  | n + 1 => block (blocks p n) (fun j => p.getD (64 * n + j) 0)
theorem blocks_ok (p : List Nat) (n : Nat) : (blocks p n).Ok := by
  cases n with
  | zero => exact H0_ok
  | succ n => exact addS_ok _ _
def zerosN (n : Nat) : Nat := (119 - n % 64) % 64
def l8 (N : Nat) : Nat → List Nat
  | 0 => []
  | i + 1 => l8 N i ++ [N * 256 ^ i % 18446744073709551616 / 72057594037927936]
theorem l8_len (N i : Nat) : (l8 N i).length = i := by
  induction i with
  | zero => rfl
  | succ i ih => rw [l8, List.length_append, ih]; rfl
def padSh (s : List UInt8) : List Nat := byteNs s ++ [128] ++ List.replicate (zerosN s.length) 0 ++ l8 (s.length * 8) 8
theorem padSh_len (s : List UInt8) : (padSh s).length = s.length + 9 + zerosN s.length := by
  simp [padSh, byteNs_len, l8_len]
  omega
def outN (l : List Nat) : List Nat := (List.range 32).map fun i => l.getD (i / 4) 0 / 2 ^ (24 - 8 * (i % 4)) % 256
def shaN (s : List UInt8) : List Nat := outN (blocks (padSh s) ((padSh s).length / 64)).list
end Go.Proofs.YtpfhlhcnmeodbaaDoor
namespace Go.Proofs.YtpfhlhcnmeodbaaDoor
open Go.RowKit
def loopsOf : Code → List Code
  | .loop c => c :: loopsOf c
  | .seq a b => loopsOf a ++ loopsOf b
  | .block _ c => loopsOf c
  | .scope c => loopsOf c
  | .cond _ a b => loopsOf a ++ loopsOf b
  | _ => []
noncomputable def loopAt (f : Func) (n : Nat) : Code := ((f.body.map loopsOf).getD []).getD n .skip
def Ends (k : Nat) (R : Act → World → Prop) : Exit → Act → World → Prop
  | .exit j, a, w => j = k ∧ R a w
  | _, _, _ => False
theorem ends_exit {k : Nat} {R : Act → World → Prop} {a : Act} {w : World} (h : R a w) : Ends k R (.exit k) a w := ⟨rfl, h⟩
theorem wp_ends {P : Program} {c : Code} {k : Nat} {Q : Exit → Act → World → Prop} {a : Act} {w : World} (h : c.wp P (Ends k (fun a w => Q (.exit k) a w)) a w) : c.wp P Q a w := by
  refine wp_mono h ?_
  intro e a w he
  cases e with
  | exit j => obtain ⟨rfl, hr⟩ := he; exact hr
  | _ => exact absurd he (by simp [Ends])
def arrW (b : Nat → Nat) (i : Nat) : List Nat := wl b i ++ List.replicate (64 - i) 0
theorem arrW_len (b : Nat → Nat) {i : Nat} (h : i ≤ 64) : (arrW b i).length = 64 := by unfold arrW; rw [List.length_append, wl_len, List.length_replicate]; omega
theorem arrW_full (b : Nat → Nat) : arrW b 64 = wl b 64 := by unfold arrW; rw [show 64 - 64 = 0 from rfl, List.replicate_zero, List.append_nil]
theorem arrW_set (b : Nat → Nat) {i x : Nat} (h : i < 64) : (arrW b i).set i x = wl b i ++ [x] ++ List.replicate (64 - (i + 1)) 0 := by
  unfold arrW
  rw [List.set_append_right _ _ (by rw [wl_len]; exact Nat.le_refl _), wl_len, Nat.sub_self, show 64 - i = (64 - (i + 1)) + 1 by omega, List.replicate_succ, List.set_cons_zero, List.append_assoc]
  rfl
theorem arrW_word {b : Nat → Nat} {i : Nat} (h : i < 16) : (arrW b i).set i (wordN b i) = arrW b (i + 1) := by rw [arrW_set b (by omega)]; unfold arrW; rw [wl_word h]
theorem arrW_next {b : Nat → Nat} {i : Nat} (h : ¬ i < 16) (h2 : i < 64) : (arrW b i).set i (nextW (wl b i) i) = arrW b (i + 1) := by rw [arrW_set b h2]; unfold arrW; rw [wl_next h]
def accN (b : Nat → Nat) (i : Nat) : Nat → Nat
  | 0 => 0
  | q + 1 => 256 * accN b i q + b (4 * i + q)
theorem S8.list_len (v : S8) : v.list.length = 8 := rfl
theorem S8.Ok.lt {v : S8} (h : v.Ok) : ∀ x ∈ v.list, x < 4294967296 := by
  intro x hx
  simp only [S8.list, List.mem_cons, List.not_mem_nil, or_false] at hx
  rcases hx with rfl | rfl | rfl | rfl | rfl | rfl | rfl | rfl
  · exact h.a
  · exact h.b
  · exact h.c
  · exact h.d
  · exact h.e
  · exact h.f
  · exact h.g
  · exact h.h
def addL (a b : List Nat) : Nat → List Nat
  | 0 => a
  | q + 1 => (addL a b q).set q ((a.getD q 0 + b.getD q 0) % 4294967296)
theorem addL_len (a b : List Nat) (q : Nat) : (addL a b q).length = a.length := by
  induction q with
  | zero => rfl
  | succ q ih => rw [addL, List.length_set, ih]
theorem addL_at (a b : List Nat) (q j : Nat) (h : q ≤ j) : (addL a b q).getD j 0 = a.getD j 0 := by
  induction q with
  | zero => rfl
  | succ q ih =>
    rw [addL, List.getD_eq_getElem?_getD, List.getElem?_set_ne (by omega), ← List.getD_eq_getElem?_getD, ih (by omega)]
theorem addL_eight (h v : S8) : addL h.list v.list 8 = (addS h v).list := rfl
def outB (l : List Nat) (i : Nat) : Nat := l.getD (i / 4) 0 / 2 ^ (24 - 8 * (i % 4)) % 256
def outP (l : List Nat) (q : Nat) : List Nat := (List.range q).map (outB l) ++ List.replicate (32 - q) 0
theorem outP_full (l : List Nat) : outP l 32 = outN l := by simp [outP, outN, outB]
theorem outP_set (l : List Nat) (q : Nat) (h : q < 32) : (outP l q).set q (outB l q) = outP l (q + 1) := by
  unfold outP
  rw [List.set_append_right _ _ (by simp), List.length_map, List.length_range, Nat.sub_self, show 32 - q = (32 - (q + 1)) + 1 by omega, List.replicate_succ, List.set_cons_zero, List.range_succ, List.map_append, List.append_assoc]
  rfl
theorem outP_len (l : List Nat) (q : Nat) (h : q ≤ 32) : (outP l q).length = 32 := by simp [outP]; omega
end Go.Proofs.YtpfhlhcnmeodbaaDoor
