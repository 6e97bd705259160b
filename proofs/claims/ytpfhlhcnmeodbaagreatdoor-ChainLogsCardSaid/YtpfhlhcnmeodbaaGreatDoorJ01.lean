/-
  Joined: Plain mathematics of layer 1's encodings: a number's bytes, what bytes begin with. It knows of no program.; What all walks of this program share: frames, slices of texts, small facts on texts.; What speaks of no program: rows and blocks of numbers, bytes and texts, in the memory; copies, stores, loads; regions whose operations keep a class of worlds.; Operations as plain mathematics: which can be, their bytes, what bytes are.; Entries as plain mathematics: which can be, their bytes, what bytes are.
-/
import Derived.BigQuiet
import Derived.BigRegion
import Derived.ChangeAlike
import Derived.Deep.Cut
import Derived.Deep.QuietTactic
import Derived.Deep.RegionWith
import Derived.Great.BuildSlice
import Derived.Laws.CopyOwn
import Derived.Laws.Rows
import Derived.Lib.BitFns
import Derived.Lib.BufferWrite
import Derived.Lib.Builder
import Derived.Lib.Hide
import Derived.Maps.AppendAt
import Derived.RegionTactic
import Derived.StillTailTactics
import Derived.Stop.BytesEq
import Derived.Test.YtpfhlhcnmeodbaaGreatDoorChecked
import Derived.WalkKit
namespace Go.Proofs.YtpfhlhcnmeodbaaGreatDoor
def dig (n : Nat) : List UInt8 := if _h : n = 0 then [] else dig (n / 256) ++ [UInt8.ofNat (n % 256)]
termination_by n
decreasing_by omega
theorem dig_zero : dig 0 = [] := by unfold dig; simp
theorem dig_pos {n : Nat} (h : n ≠ 0) : dig n = dig (n / 256) ++ [UInt8.ofNat (n % 256)] := by rw [dig]; simp [h]
def val (l : List UInt8) : Nat := l.foldl (fun a d => a * 256 + d.toNat) 0
theorem toNat_ofNat_mod (n : Nat) : (UInt8.ofNat (n % 256)).toNat = n % 256 := by simp
def numB (n : Nat) : List UInt8 := UInt8.ofNat (dig n).length :: dig n
theorem dig_length_le (k : Nat) : ∀ n, n < 256 ^ k → (dig n).length ≤ k := by
  induction k with
  | zero => intro n h; have : n = 0 := by simpa using h
            subst this; rw [dig_zero]; simp
  | succ k ih =>
    intro n h
    by_cases h0 : n = 0
    · subst h0; rw [dig_zero]; simp
    · rw [dig_pos h0]
      have h1 : n / 256 < 256 ^ k := by
        rw [Nat.div_lt_iff_lt_mul (by decide)]; rw [Nat.pow_succ] at h; exact h
      have := ih _ h1
      simp; omega
theorem dig_length_ge (k : Nat) : ∀ n, (dig n).length ≤ k → n < 256 ^ k := by
  induction k with
  | zero =>
    intro n h
    by_cases h0 : n = 0
    · subst h0; decide
    · rw [dig_pos h0] at h; simp at h
  | succ k ih =>
    intro n h
    by_cases h0 : n = 0
    · subst h0; exact Nat.pow_pos (by decide)
    · rw [dig_pos h0] at h
      have h1 := ih (n / 256) (by simp at h; omega)
      rw [Nat.pow_succ]
      rwa [Nat.div_lt_iff_lt_mul (by decide)] at h1
theorem dig_length_8 {n : Nat} (h : n < 9223372036854775808) : (dig n).length ≤ 8 :=
  dig_length_le 8 n (Nat.lt_of_lt_of_le h (by decide))
theorem numB_length (n : Nat) : (numB n).length = 1 + (dig n).length := by simp [numB]; omega
theorem numB_length_9 {n : Nat} (h : n < 9223372036854775808) : (numB n).length ≤ 9 := by
  have := dig_length_8 h; rw [numB_length]; omega
theorem numB_pos (n : Nat) : 1 ≤ (numB n).length := by rw [numB_length]; omega
def textB (t : List UInt8) : List UInt8 := numB t.length ++ t
def textsB (l : List (List UInt8)) : List UInt8 := (l.map textB).flatten
theorem textsB_cons (t : List UInt8) (l : List (List UInt8)) : textsB (t :: l) = textB t ++ textsB l := by simp [textsB]
theorem textsB_snoc (t : List UInt8) (l : List (List UInt8)) : textsB (l ++ [t]) = textsB l ++ textB t := by simp [textsB]
def listB (l : List (List UInt8)) : List UInt8 := numB l.length ++ textsB l
theorem bitLenAux_spec : ∀ (f n : Nat), n < 2 ^ f → (n = 0 → Lib.bitLenAux f n = 0) ∧ (n ≠ 0 → 2 ^ (Lib.bitLenAux f n - 1) ≤ n ∧ n < 2 ^ Lib.bitLenAux f n ∧ 1 ≤ Lib.bitLenAux f n) := by
  intro f
  induction f with
  | zero => intro n h; simp at h; subst h; exact ⟨fun _ => rfl, fun h => absurd rfl h⟩
  | succ f ih =>
    intro n h
    refine ⟨fun e => by subst e; simp [Lib.bitLenAux], fun e => ?_⟩
    have e2 : Lib.bitLenAux (f + 1) n = 1 + Lib.bitLenAux f (n / 2) := by simp [Lib.bitLenAux, e]
    rw [e2]
    have h2 : n / 2 < 2 ^ f := by rw [Nat.pow_succ] at h; omega
    obtain ⟨i0, i1⟩ := ih (n / 2) h2
    by_cases e3 : n / 2 = 0
    · rw [i0 e3]; have : n = 1 := by omega
      subst this; decide
    · obtain ⟨a, b, c⟩ := i1 e3
      generalize Lib.bitLenAux f (n / 2) = m at *
      obtain ⟨q, rfl⟩ : ∃ q, m = q + 1 := ⟨m - 1, by omega⟩
      simp only [Nat.add_sub_cancel] at a
      rw [show 1 + (q + 1) - 1 = q + 1 by omega, show 1 + (q + 1) = q + 1 + 1 by omega, Nat.pow_succ 2 (q + 1), Nat.pow_succ 2 q] at *
      omega
theorem bitLen_le {n : Nat} (h : n < 9223372036854775808) : Lib.bitLen n ≤ 63 := by
  obtain ⟨h0, h1⟩ := bitLenAux_spec 64 n (Nat.lt_of_lt_of_le h (by decide))
  unfold Lib.bitLen
  by_cases e : n = 0
  · rw [h0 e]; omega
  · obtain ⟨a, _, _⟩ := h1 e
    apply Decidable.byContradiction
    intro hc
    have : 2 ^ 63 ≤ 2 ^ (Lib.bitLenAux 64 n - 1) := Nat.pow_le_pow_right (by decide) (by omega)
    have e63 : (2 : Nat) ^ 63 = 9223372036854775808 := by decide
    omega
theorem bitLen_dig {n : Nat} (h : n < 9223372036854775808) : (Lib.bitLen n + 7) / 8 = (dig n).length := by
  obtain ⟨h0, h1⟩ := bitLenAux_spec 64 n (Nat.lt_of_lt_of_le h (by decide))
  unfold Lib.bitLen
  by_cases e : n = 0
  · rw [h0 e, e, dig_zero]; rfl
  · obtain ⟨a, b, c⟩ := h1 e
    generalize Lib.bitLenAux 64 n = m at *
    have p8 : ∀ k, 256 ^ k = 2 ^ (8 * k) := fun k => by rw [show (256 : Nat) = 2 ^ 8 by decide, ← Nat.pow_mul]
    apply Nat.le_antisymm
    · apply Decidable.byContradiction
      intro hc
      have g := dig_length_ge _ n (Nat.le_refl _)
      rw [p8] at g
      have : 2 ^ (8 * (dig n).length) ≤ 2 ^ (m - 1) := Nat.pow_le_pow_right (by decide) (by omega)
      omega
    · apply dig_length_le
      rw [p8]
      exact Nat.lt_of_lt_of_le b (Nat.pow_le_pow_right (by decide) (by omega))
theorem dig_get (n : Nat) : ∀ (j : Nat) (h : j < (dig n).length), ((dig n)[j]).toNat = n / 256 ^ ((dig n).length - 1 - j) % 256 := by
  induction n using Nat.strongRecOn with
  | ind n ih =>
    intro j h
    by_cases h0 : n = 0
    · subst h0; rw [dig_zero] at h; simp at h
    · have e := dig_pos h0
      have hl : (dig n).length = (dig (n / 256)).length + 1 := by rw [e]; simp
      simp only [hl, Nat.add_sub_cancel]
      by_cases hj : j < (dig (n / 256)).length
      · have := ih (n / 256) (by omega) j hj
        simp only [e, List.getElem_append_left hj]
        rw [this, Nat.div_div_eq_div_mul, ← Nat.pow_succ', show ((dig (n / 256)).length - 1 - j).succ = (dig (n / 256)).length - j by omega]
      · have hj2 : j = (dig (n / 256)).length := by omega
        subst hj2
        simp [e]
theorem textsB_append (a b : List (List UInt8)) : textsB (a ++ b) = textsB a ++ textsB b := by simp [textsB]
theorem textsB_parts (l : List (List UInt8)) (q : Nat) (h : q < l.length) : (textsB l).length = (textsB (l.take q)).length + (textB l[q]).length + (textsB (l.drop (q + 1))).length := by
  have e : l = l.take q ++ (l[q] :: l.drop (q + 1)) := by rw [← List.drop_eq_getElem_cons h, List.take_append_drop]
  have := congrArg (fun x => (textsB x).length) e
  simp only [textsB_append, textsB_cons, List.length_append] at this
  omega
theorem textB_length (t : List UInt8) : (textB t).length = (numB t.length).length + t.length := by simp [textB]
theorem listB_length (l : List (List UInt8)) : (listB l).length = (numB l.length).length + (textsB l).length := by simp [listB]
theorem textsB_take_succ (l : List (List UInt8)) (q : Nat) (h : q < l.length) : textsB (l.take (q + 1)) = textsB (l.take q) ++ numB l[q].length ++ l[q] := by
  rw [List.take_succ_eq_append_getElem h, textsB_snoc, textB, List.append_assoc]
end Go.Proofs.YtpfhlhcnmeodbaaGreatDoor
namespace Go.Proofs.YtpfhlhcnmeodbaaGreatDoor
open Go.RowKit
structure But (b : Nat) (w w' : World) : Prop where
  os : w'.os = w.os
  tape : w'.tape = w.tape
  output : w'.output = w.output
  size : w.heap.size ≤ w'.heap.size
  block : ∀ k, k < w.heap.size → k ≠ b → w'.heap[k]? = w.heap[k]?
theorem But.refl (b : Nat) (w : World) : But b w w := ⟨rfl, rfl, rfl, Nat.le_refl _, fun _ _ _ => rfl⟩
theorem But.trans {b : Nat} {w1 w2 w3 : World} (h : But b w1 w2) (k : But b w2 w3) : But b w1 w3 :=
  ⟨k.os.trans h.os, k.tape.trans h.tape, k.output.trans h.output, Nat.le_trans h.size k.size, fun i hi hb => (k.block i (Nat.lt_of_lt_of_le hi h.size) hb).trans (h.block i hi hb)⟩
theorem But.setCell {b : Nat} {w w' : World} (h : But b w w') (o : Nat) (v : Value) : But b w (w'.setCell ⟨b, o, none⟩ v) :=
  h.trans ⟨rfl, rfl, rfl, by simp [World.setCell], fun k _ hb => Below.heap_setCell _ _ _ _ hb⟩
theorem But.drew {b : Nat} {w w' : World} (h : But b w w') : But b w w'.drew := ⟨h.os, h.tape, h.output, h.size, h.block⟩
theorem But.below {b : Nat} {w w1 w2 : World} (h : But b w w1) (k : Below w1.heap.size w1 w2) : But b w w2 :=
  ⟨k.os.trans h.os, k.tape.trans h.tape, k.output.trans h.output, Nat.le_trans h.size k.size, fun i hi hb => (k.block i (Nat.lt_of_lt_of_le hi h.size)).trans (h.block i hi hb)⟩
theorem But.toBelow {b B : Nat} {w0 w w' : World} (h : Below B w0 w) (k : But b w w') (hb : B ≤ b) (hB : B ≤ w.heap.size) : Below B w0 w' :=
  h.trans ⟨k.os, k.tape, k.output, k.size, fun i hi => k.block i (by omega) (by omega)⟩
theorem heap_setCell_at {w : World} {b o : Nat} {v : Value} {c : Array Value} {t : TypeId} {z : Nat × Nat} (h : w.heap[b]? = some (.cells c t z)) :
    (w.setCell ⟨b, o, none⟩ v).heap[b]? = some (.cells (c.setIfInBounds o v) t z) := by
  have hlt := lt_of_block h
  have h' : w.heap[b] = .cells c t z := by simpa [Array.getElem?_eq_getElem hlt] using h
  show (w.heap.modify b _)[b]? = _
  rw [Array.getElem?_eq_getElem (by simpa using hlt), Array.getElem_modify_self, h']
  simp
theorem extract_head (s : List UInt8) (n : Nat) : (⟨s.toArray⟩ : ByteArray).extract 0 n = ⟨(s.take n).toArray⟩ := by
  apply ByteArray.ext
  simp [ByteArray.data_extract]
theorem extract_tail (s : List UInt8) (n : Nat) : (⟨s.toArray⟩ : ByteArray).extract n s.length = ⟨(s.drop n).toArray⟩ := by
  apply ByteArray.ext
  simp only [ByteArray.data_extract]
  rw [List.extract_toArray]
  congr 1
  rw [List.extract_eq_take_drop, List.take_of_length_le (by simp)]
theorem Tryz.infoString : (Tryz.prog.info? 9).map (fun i => (i.zero, i.size, i.bytes)) = some (some (.string ⟨#[]⟩), 1, 16) := by kernel_rfl
def strs (l : List (List UInt8)) : List Value := l.map fun t => Value.string ⟨t.toArray⟩
theorem strs_length (l : List (List UInt8)) : (strs l).length = l.length := by simp [strs]
def OwnS (B : Nat) (v : Value) (l : List (List UInt8)) (w : World) : Prop := w.ownsRow B 9 1 v l.length (strs l)
theorem OwnS.form {B : Nat} {v : Value} {l : List (List UInt8)} {w : World} (h : OwnS B v l w) : ∃ ao cap, v = .slice ao l.length cap := by
  rcases h.2 with ⟨hv, h0⟩ | ⟨g, cap, cur, hv, _⟩
  · exact ⟨none, 0, by rw [hv, h0]⟩
  · exact ⟨_, _, hv⟩
def StrsAt (ao : Option Addr) (l : List (List UInt8)) (w : World) : Prop :=
  l = [] ∨ ∃ b o, ao = some ⟨b, o, none⟩ ∧ b < w.heap.size ∧ ∀ j (h : j < l.length), w.cell? ⟨b, o + j, none⟩ = some (.string ⟨l[j].toArray⟩)
theorem StrsAt.below {ao : Option Addr} {l : List (List UInt8)} {w w' : World} (h : StrsAt ao l w) (k : Below w.heap.size w w') : StrsAt ao l w' := by
  rcases h with h | ⟨b, o, ha, hb, hc⟩
  · exact Or.inl h
  · exact Or.inr ⟨b, o, ha, Nat.lt_of_lt_of_le hb k.size, fun j hj => (k.cell (p := ⟨b, o + j, none⟩) hb).trans (hc j hj)⟩
theorem strsAt_own {B : Nat} {ao : Option Addr} {c : Nat} {l : List (List UInt8)} {w : World} (h : OwnS B (.slice ao l.length c) l w) : StrsAt ao l w := by
  rcases h.2 with ⟨_, h0⟩ | ⟨g, cap, cur, hv, hg, hb, hcap, hm, hcs, htk⟩
  · exact Or.inl (List.length_eq_zero_iff.1 h0)
  · simp only [Value.slice.injEq] at hv
    obtain ⟨rfl, _, rfl⟩ := hv
    refine Or.inr ⟨g, 0, rfl, lt_of_block hb, fun j hj => ?_⟩
    have := Lib.cell_of_heap hb (0 + j)
    rw [this]
    have e := congrArg (fun x => x[j]?) htk
    simp only [List.getElem?_take] at e
    rw [if_pos (by omega)] at e
    rw [Nat.zero_add, ← Array.getElem?_toList, e, strs]
    simp [hj]
theorem OwnS.below {B : Nat} {v : Value} {l : List (List UInt8)} {w w' : World} (h : OwnS B v l w) (k : Below w.heap.size w w') : OwnS B v l w' := by
  refine World.ownsRow.kept (row := none) h ⟨k.os, k.tape, k.output, k.size, fun i hi _ => k.block i hi⟩ ?_
  rcases h.2 with ⟨hv, _⟩ | ⟨g, cap, cur, hv, hg, _⟩
  · exact Or.inl (by rw [hv]; rfl)
  · exact Or.inr (by rw [hv]; simp [Value.ownBlock])
theorem drawn_below {B : Nat} {w w' : World} (h : Below B w w') (n : Nat) : Below B w (w'.drewN n) := ⟨h.os, h.tape, h.output, h.size, h.block⟩
end Go.Proofs.YtpfhlhcnmeodbaaGreatDoor
namespace Go.Proofs.YtpfhlhcnmeodbaaGreatDoor
open Go.RowKit
def nums (k : IntKind) (l : List Nat) : List Value := l.map fun (n : Nat) => Value.int k (n : Int)
theorem nums_snoc (k : IntKind) (l : List Nat) (n : Nat) : nums k (l ++ [n]) = nums k l ++ [.int k (n : Int)] := by simp [nums]
def OwnN (B : Nat) (e : TypeId) (k : IntKind) (v : Value) (l : List Nat) (w : World) : Prop := w.ownsRow B e 1 v l.length (nums k l)
def NumsAt (ao : Option Addr) (k : IntKind) (l : List Nat) (w : World) : Prop :=
  l = [] ∨ ∃ b o, ao = some ⟨b, o, none⟩ ∧ b < w.heap.size ∧ ∀ j (h : j < l.length), w.cell? ⟨b, o + j, none⟩ = some (.int k (l[j] : Int))
theorem OwnN.nil (B : Nat) (e : TypeId) (k : IntKind) (w : World) : OwnN B e k (.slice none 0 0) [] w := World.ownsRow_nil _ _ _ _
theorem OwnN.form {B : Nat} {e : TypeId} {k : IntKind} {v : Value} {l : List Nat} {w : World} (h : OwnN B e k v l w) : ∃ ao cap, v = .slice ao l.length cap := by
  rcases h.2 with ⟨hv, h0⟩ | ⟨g, cap, cur, hv, _⟩
  · exact ⟨none, 0, by rw [hv, h0]⟩
  · exact ⟨_, _, hv⟩
theorem OwnN.below {B : Nat} {e : TypeId} {k : IntKind} {v : Value} {l : List Nat} {w w' : World} (h : OwnN B e k v l w) (b : Below w.heap.size w w') : OwnN B e k v l w' := by
  refine World.ownsRow.kept (row := none) h ⟨b.os, b.tape, b.output, b.size, fun i hi _ => b.block i hi⟩ ?_
  rcases h.2 with ⟨hv, _⟩ | ⟨g, cap, cur, hv, hg, _⟩
  · exact Or.inl (by rw [hv]; rfl)
  · exact Or.inr (by rw [hv]; simp [Value.ownBlock])
theorem OwnN.mono {B B' : Nat} {e : TypeId} {k : IntKind} {v : Value} {l : List Nat} {w : World} (h : OwnN B e k v l w) (hB : B' ≤ B) : OwnN B' e k v l w := by
  refine ⟨h.1, ?_⟩
  rcases h.2 with h0 | ⟨g, cap, cur, hv, hg, r⟩
  · exact Or.inl h0
  · exact Or.inr ⟨g, cap, cur, hv, by omega, r⟩
theorem OwnN.at {B : Nat} {e : TypeId} {k : IntKind} {ao : Option Addr} {c : Nat} {l : List Nat} {w : World} (h : OwnN B e k (.slice ao l.length c) l w) : NumsAt ao k l w := by
  rcases h.2 with ⟨_, h0⟩ | ⟨g, cap, cur, hv, hg, hb, hcap, hm, hcs, htk⟩
  · exact Or.inl (List.length_eq_zero_iff.1 h0)
  · simp only [Value.slice.injEq] at hv
    obtain ⟨rfl, _, rfl⟩ := hv
    refine Or.inr ⟨g, 0, rfl, lt_of_block hb, fun j hj => ?_⟩
    have := Lib.cell_of_heap hb (0 + j)
    rw [this]
    have e := congrArg (fun x => x[j]?) htk
    simp only [List.getElem?_take] at e
    rw [if_pos (by omega)] at e
    rw [Nat.zero_add, ← Array.getElem?_toList, e, nums]
    simp [List.getElem?_eq_getElem hj]
theorem OwnN.grown {B : Nat} {e : TypeId} {k : IntKind} {v : Value} {l : List Nat} {w w' : World} {r : Option Nat} (h : OwnN B e k v l w) (hg : w.grownBy w' r) (ap : ∀ g, v.ownBlock = some g → r ≠ some g) : OwnN B e k v l w' := by
  refine World.ownsRow.kept h hg ?_
  cases hv : v.ownBlock with
  | none => exact Or.inl rfl
  | some g => exact Or.inr (fun e => ap g hv e.symm)
theorem OwnN.alloc {B : Nat} {e : TypeId} {k : IntKind} {v : Value} {l : List Nat} {w : World} (h : OwnN B e k v l w) (o : Obj) : OwnN B e k v l (w.alloc o) := World.ownsRow.alloc h o
def Apart (v1 v2 : Value) : Prop := ∀ g, v1.ownBlock = some g → v2.ownBlock ≠ some g
theorem num_pushed {B : Nat} {w0 wr w3 : World} {v v' v2 : Value} {o : Obj} {l l2 l' : List Nat} {e : TypeId} {k : IntKind} (hB : B ≤ wr.heap.size) (hb : Below B w0 wr) (h1 : OwnN B e k v l wr) (h2 : OwnN B e k v2 l2 wr) (hap : Apart v v2)
    (hgrow : (wr.alloc o).grownBy w3 v.ownBlock) (hrw : v'.ownBlock = v.ownBlock ∨ v'.ownBlock = some (wr.heap.size + 1)) (hown : OwnN B e k v' l' w3) :
    Below B w0 w3 ∧ OwnN B e k v' l' w3 ∧ OwnN B e k v2 l2 w3 ∧ Apart v' v2 := by
  refine ⟨(hb.alloc hB _).grown hgrow (by simp; omega) (fun g hg => (World.ownsRow.lt h1 g hg).1), hown, (h2.alloc o).grown hgrow (fun g hg e => hap g e hg), ?_⟩
  rcases hrw with h | h
  · intro g hg
    rw [h] at hg
    exact hap g hg
  · intro g hg e
    rw [h] at hg
    have := (World.ownsRow.lt h2 g e).2
    simp at hg
    omega
def OwnT (B : Nat) (e : TypeId) (k : IntKind) (v : Value) (l : List Nat) (w : World) : Prop :=
  ∃ g cap cur fz, v = .slice (some ⟨g, 0, none⟩) l.length cap ∧ B ≤ g ∧ w.heap[g]? = some (.cells cur e fz) ∧ (fz.2 = 0 ∨ cap ≤ fz.1) ∧ l.length ≤ cap ∧ cap ≤ maxLen ∧ cur.size = cap ∧ cur.toList.take l.length = nums k l
theorem nums_len (k : IntKind) (l : List Nat) : (nums k l).length = l.length := by simp [nums]
theorem OwnT.lt {B : Nat} {e : TypeId} {k : IntKind} {v : Value} {l : List Nat} {w : World} (h : OwnT B e k v l w) : ∀ g, v.ownBlock = some g → B ≤ g ∧ g < w.heap.size := by
  obtain ⟨g, cap, cur, fz, rfl, hb, hg, _⟩ := h
  intro g' hg'
  simp [Value.ownBlock] at hg'
  subst hg'
  exact ⟨hb, lt_of_block hg⟩
theorem OwnT.form {B : Nat} {e : TypeId} {k : IntKind} {v : Value} {l : List Nat} {w : World} (h : OwnT B e k v l w) : ∃ g cap, v = .slice (some ⟨g, 0, none⟩) l.length cap := by
  obtain ⟨g, cap, cur, fz, rfl, _⟩ := h
  exact ⟨_, _, rfl⟩
theorem OwnT.kept {B : Nat} {e : TypeId} {k : IntKind} {v : Value} {l : List Nat} {w w' : World} (h : OwnT B e k v l w) (hk : ∀ g, v.ownBlock = some g → w'.heap[g]? = w.heap[g]?) : OwnT B e k v l w' := by
  obtain ⟨g, cap, cur, fz, rfl, hb, hg, r⟩ := h
  exact ⟨g, cap, cur, fz, rfl, hb, (hk g rfl).trans hg, r⟩
theorem OwnT.below {B : Nat} {e : TypeId} {k : IntKind} {v : Value} {l : List Nat} {w w' : World} (h : OwnT B e k v l w) (b : Below w.heap.size w w') : OwnT B e k v l w' :=
  h.kept fun g hg => b.block g (h.lt g hg).2
theorem OwnT.alloc {B : Nat} {e : TypeId} {k : IntKind} {v : Value} {l : List Nat} {w : World} (h : OwnT B e k v l w) (o : Obj) : OwnT B e k v l (w.alloc o) :=
  h.kept fun g hg => World.grownBy.block (World.grownBy_alloc w o none) g (h.lt g hg).2 (by simp)
theorem OwnT.cells {B : Nat} {e : TypeId} {k : IntKind} {v : Value} {l : List Nat} {w : World} (h : OwnT B e k v l w) {g : Nat} (hv : v.ownBlock = some g) : ∀ j (hj : j < l.length), w.cell? ⟨g, j, none⟩ = some (.int k (l[j] : Int)) := by
  obtain ⟨g', cap, cur, fz, rfl, hb, hg, hfz, hlc, hcm, hcs, htk⟩ := h
  simp [Value.ownBlock] at hv
  subst hv
  intro j hj
  rw [Lib.cell_of_heap hg j]
  have e := congrArg (fun x => x[j]?) htk
  simp only [List.getElem?_take] at e
  rw [if_pos hj] at e
  rw [← Array.getElem?_toList, e, nums]
  simp [List.getElem?_eq_getElem hj]
theorem OwnT.mono {B B' : Nat} {e : TypeId} {k : IntKind} {v : Value} {l : List Nat} {w : World} (h : OwnT B e k v l w) (hB : B' ≤ B) : OwnT B' e k v l w := by
  obtain ⟨g, cap, cur, fz, hv, hb, r⟩ := h
  exact ⟨g, cap, cur, fz, hv, by omega, r⟩
def byteNs (s : List UInt8) : List Nat := s.map (fun b => b.toNat)
theorem byteNs_len (s : List UInt8) : (byteNs s).length = s.length := by simp [byteNs]
theorem ownT_bytes (w : World) (e : TypeId) (s : List UInt8) (hm : s.length ≤ maxLen) :
    OwnT w.heap.size e .u8 (.slice (some ⟨w.heap.size, 0, none⟩) s.length (grownCap w s.length 0 e)) (byteNs s)
      (w.drew.alloc (.cells (bytesRow ⟨s.toArray⟩ (grownCap w s.length 0 e)) e ((bytesRow ⟨s.toArray⟩ (grownCap w s.length 0 e)).size, (bytesRow ⟨s.toArray⟩ (grownCap w s.length 0 e)).size + 1))) := by
  have hge := grownCap_ge w s.length 0 e
  have hcm := grownCap_le_maxLen w s.length 0 e hm
  have hsz : (bytesRow ⟨s.toArray⟩ (grownCap w s.length 0 e)).size = grownCap w s.length 0 e := by
    have : (⟨s.toArray⟩ : ByteArray).size = s.length := by simp [ByteArray.size]
    simp [bytesRow, this]
    omega
  refine ⟨w.heap.size, grownCap w s.length 0 e, _, _, by rw [byteNs_len], Nat.le_refl _, heap_alloc_new w.drew _, Or.inr (by rw [hsz]; exact Nat.le_refl _), by rw [byteNs_len]; exact hge, hcm, hsz, ?_⟩
  rw [byteNs_len]
  simp [bytesRow, nums, byteNs]
section
variable {P : Program}
theorem run_append_tail (w : World) (base : Nat) (t ty e : TypeId) (i : TypeInfo) (z : Value) (bytes : Nat) (k : IntKind) (ht : P.underlying t = some (.slice e)) (hi : P.info? e = some i) (hz : i.zero = some z)
    (hsize : i.size = 1) (hby : i.bytes = bytes) (hzs : z.cells.size = 1) (v : Value) (l : List Nat) (hown : OwnT base e k v l w)
    (a : Addr) (c x : Nat) (hnews : ∀ j u, [Value.int k (x : Int)][j]? = some u → w.cell? (a.add j) = some u) (h63 : l.length + 1 ≤ maxLen) (hbytes : (l.length + 1) * bytes ≤ 140737488355328) (hbase : base ≤ w.heap.size) :
    ∃ v' w', (Builtin.append_ #[t, t] ty #[v, .slice (some a) 1 c]).run P w = .ok v' w' ∧ OwnT base e k v' (l ++ [x]) w' ∧ w.grownBy w' v.ownBlock ∧ (v'.ownBlock = v.ownBlock ∨ v'.ownBlock = some w.heap.size) := by
  have hcells : ∀ g, v.ownBlock = some g → ∀ j (hj : j < l.length), w.cell? ⟨g, j, none⟩ = some (.int k (l[j] : Int)) := fun g hg => hown.cells hg
  obtain ⟨g, cap, cur, fz, rfl, hb, hg, hfz, hlc, hcm, hcs, htk⟩ := hown
  have hsmall : l.length + 1 ≤ 9223372036854775807 := by simp only [maxLen] at h63; omega
  by_cases hroom : l.length + 1 ≤ cap
  · have hf := run_firstCells_some (P := P) w i.size 1 a 1 c [.int k x] (by simp [hsize]) hnews
    rw [hsize] at hf
    have hfr : w.frozen? ⟨g, l.length, none⟩ = false := by
      obtain ⟨lo, hi'⟩ := fz
      simp only [World.frozen?, hg, Bool.and_eq_false_iff, decide_eq_false_iff_not]
      simp only at hfz
      rcases hfz with h | h
      · right; omega
      · left; omega
    have hc : w.cell? ⟨g, l.length, none⟩ = some (cur[l.length]'(by omega)) := by
      rw [Lib.cell_of_heap hg l.length]
      simp
    have hst : (store ⟨g, l.length, none⟩ (.int k x)).run P w = .ok () (w.setCell ⟨g, l.length, none⟩ (.int k x)) := by
      rw [run_store P w _ _ _ rfl, hc]
      simp [hfr]
    refine ⟨.slice (some ⟨g, 0, none⟩) (l.length + 1) cap, w.setCell ⟨g, l.length, none⟩ (.int k x), ?_, ⟨g, cap, _, fz, by simp, hb, heap_setCell_at hg, hfz, by simpa using hroom, hcm, by simpa using hcs, ?_⟩, ?_, Or.inl rfl⟩
    · simp [Builtin.append_, run_underlying ht, sizeOf, typeInfo, hi, hsize, Builtin.lenOf, hroom, hf, Addr.add_lit, storeCells, hst]
    · rw [Array.toList_setIfInBounds, nums_snoc, ← htk, List.length_append, List.length_singleton]
      have hl : l.length < (cur.toList.set l.length (.int k x)).length := by simp; omega
      rw [List.take_succ_eq_append_getElem hl, List.take_set_of_le (Nat.le_refl _)]
      simp
    · exact ⟨rfl, rfl, rfl, by simp [World.setCell], fun j _ hj => heap_setCell_other w ⟨g, l.length, none⟩ j _ (fun e => hj (by simp [Value.ownBlock, e]))⟩
  · have hr := run_append_grow (P := P) w t ty e i z ht hi hz ⟨g, 0, none⟩ l.length cap (nums k l) (by rw [nums_len, hsize, Nat.mul_one]) (fun j u hj => by
        have hj' : j < l.length := by
          have := (List.getElem?_eq_some_iff.1 hj).1
          rwa [nums_len] at this
        rw [Addr.add_lit, Nat.zero_add, hcells g rfl j hj', ← hj]
        simp [nums, List.getElem?_eq_getElem hj']) a 1 c [.int k x] (by simp [hsize]) hnews (by omega) (by omega) (growslice_fits (by omega) (by rw [hby]; exact hbytes))
    have hge := grownCap_ge w (l.length + 1) cap e
    have hcm2 := grownCap_le_maxLen w (l.length + 1) cap e h63
    refine ⟨_, _, hr, ⟨w.heap.size, _, _, (0, 0), by simp, hbase, heap_alloc_new w.drew _, Or.inl rfl, by simpa using hge, hcm2, ?_, ?_⟩, ⟨rfl, rfl, rfl, by simp, fun j hj _ => World.grownBy.block (World.grownBy_alloc w.drew _ none) j hj (by simp)⟩, Or.inr rfl⟩
    · simp only [Array.size_append, List.size_toArray, size_zeroCells, hzs, nums_len, List.length_singleton]
      omega
    · simp only [Array.toList_append, List.append_assoc, nums_snoc]
      rw [← List.append_assoc, List.take_append_of_le_length (by simp [nums_len]), List.take_of_length_le (by simp [nums_len])]
theorem wpList_append_tail {w : World} {ops : Array Oper} {rest : List Oper} {o : Oper} {a : Act} {Q : Exit → Act → World → Prop} (hgd : o.guard = none) (s x : Operand) (t : TypeId)
    (ho : o.op = .call { callee := .builtin .append, args := #[s, x], argTypes := #[t, t] })
    (base : Nat) (e : TypeId) (i : TypeInfo) (z : Value) (bytes : Nat) (k : IntKind) (ht : P.underlying t = some (.slice e)) (hi : P.info? e = some i) (hz : i.zero = some z)
    (hsize : i.size = 1) (hby : i.bytes = bytes) (hzs : z.cells.size = 1)
    (v : Value) (l : List Nat) (hs : a.eval s = v) (hown : OwnT base e k v l w)
    (ad : Addr) (c y : Nat) (hx : a.eval x = .slice (some ad) 1 c) (hnews : ∀ j u, [Value.int k (y : Int)][j]? = some u → w.cell? (ad.add j) = some u)
    (h63 : l.length + 1 ≤ maxLen) (hbytes : (l.length + 1) * bytes ≤ 140737488355328) (hbase : base ≤ w.heap.size)
    (h : ∀ v' w', OwnT base e k v' (l ++ [y]) w' → w.grownBy w' v.ownBlock → (v'.ownBlock = v.ownBlock ∨ v'.ownBlock = some w.heap.size) → wpList P ops Q rest (a.put o.dst v') w') :
    wpList P ops Q (o :: rest) a w := by
  refine wpList_plain hgd fun K hK => ?_
  obtain ⟨v', w', hr, h2, h3, h4⟩ := run_append_tail (P := P) w base t o.type e i z bytes k ht hi hz hsize hby hzs v l hown ad c y hnews h63 hbytes hbase
  unfold Oper.wp execOp
  simp only [ho, resolve, invoke, builtin, Sem.run_bind, Sem.run_pure, Result.andThen_ok, List.map_toArray, List.map_cons, List.map_nil, hs, hx, hr]
  exact hK _ _ (h v' w' h2 h3 h4)
end
theorem getD_lt {l : List Nat} {m : Nat} (hl : ∀ x ∈ l, x < m) (h0 : 0 < m) (j : Nat) : l.getD j 0 < m := by
  rcases Nat.lt_or_ge j l.length with h | h
  · have e : l.getD j 0 = l[j] := by simp [List.getD, h]
    rw [e]
    exact hl _ (List.getElem_mem h)
  · have e : l.getD j 0 = 0 := by simp [List.getD, h]
    omega
theorem Tryz.infoU8 : (Tryz.prog.info? 5).map (fun i => (i.zero, i.size, i.bytes)) = some (some (.int .u8 0), 1, 1) := by kernel_rfl
theorem conv_bytes (s : List UInt8) (w : World) (hm : s.length ≤ maxLen) : ∃ g cap w', (convert 9 97 (.string ⟨s.toArray⟩)).run Tryz.prog w = .ok (.slice (some ⟨g, 0, none⟩) s.length cap) w' ∧
    OwnT w.heap.size 5 .u8 (.slice (some ⟨g, 0, none⟩) s.length cap) (byteNs s) w' ∧ Below w.heap.size w w' := by
  have hs : (⟨s.toArray⟩ : ByteArray).size = s.length := by simp [ByteArray.size]
  have hr := run_bytes_of_string (P := Tryz.prog) w 9 97 5 ⟨s.toArray⟩ Tryz.underlying9 Tryz.underlying97 Tryz.underlying5
  rw [hs] at hr
  exact ⟨_, _, _, hr, ownT_bytes w 5 s hm, ((drawn_below (Below.refl w.heap.size w) 1).alloc (Nat.le_refl _) _)⟩
def lenV : Value → Nat
  | .slice _ n _ => n
  | _ => 0
theorem tail_pushed {B : Nat} {w0 wr w3 : World} {v : Value} {o : Obj} {l : List Nat} {e : TypeId} {k : IntKind} (hb : Below B w0 wr) (hB : B ≤ wr.heap.size) (h1 : OwnT B e k v l wr) (hgrow : (wr.alloc o).grownBy w3 v.ownBlock) : Below B w0 w3 :=
  (hb.alloc hB _).grown hgrow (by simp; omega) (fun g hg => (h1.lt g hg).1)
theorem OwnN.cellAt {B g c : Nat} {e : TypeId} {k : IntKind} {l : List Nat} {w : World} (h : OwnN B e k (.slice (some ⟨g, 0, none⟩) l.length c) l w) (j x : Nat) (hj : l[j]? = some x) : w.cell? ⟨g, j, none⟩ = some (.int k (x : Int)) := by
  have hl := (List.getElem?_eq_some_iff.1 hj).1
  have := World.ownsRow.cellAt h j (by rw [Nat.mul_one]; exact hl)
  rw [this, nums, List.getElem?_map, hj]
  rfl
theorem OwnN.cellN {B g c n : Nat} {e : TypeId} {k : IntKind} {l : List Nat} {w : World} (hn : n = l.length) (h : OwnN B e k (.slice (some ⟨g, 0, none⟩) n c) l w) (j : Nat) (hj : j < n) : w.cell? ⟨g, j, none⟩ = some (.int k ((l.getD j 0 : Nat) : Int)) := by
  subst hn
  exact h.cellAt j _ (by rw [List.getD_eq_getElem?_getD, List.getElem?_eq_getElem hj]; rfl)
theorem OwnN.frozenAt {B g c n : Nat} {e : TypeId} {k : IntKind} {l : List Nat} {w : World} (hn : n = l.length) (h : OwnN B e k (.slice (some ⟨g, 0, none⟩) n c) l w) (j : Nat) : w.frozen? ⟨g, j, none⟩ = false := by
  subst hn
  exact World.ownsRow.frozenAt h j
theorem OwnN.stored {B g c n : Nat} {e : TypeId} {k : IntKind} {l : List Nat} {w : World} (hn : n = l.length) (h : OwnN B e k (.slice (some ⟨g, 0, none⟩) n c) l w) (j x : Nat) :
    OwnN B e k (.slice (some ⟨g, 0, none⟩) n c) (l.set j x) (w.setCell ⟨g, j, none⟩ (.int k (x : Int))) := by
  subst hn
  have := (World.ownsRow.stored h j (.int k (x : Int))).1
  rw [OwnN, List.length_set]
  simpa [nums, List.map_set] using this
theorem below_set {B b : Nat} {w0 w : World} (h : Below B w0 w) (hb : B ≤ b) (o : Nat) (v : Value) : Below B w0 (w.setCell ⟨b, o, none⟩ v) :=
  ⟨h.os, h.tape, h.output, by simpa [World.setCell] using h.size, fun k hk => (Below.heap_setCell _ _ _ _ (by show k ≠ b; omega)).trans (h.block k hk)⟩
theorem OwnN.formB {B : Nat} {e : TypeId} {k : IntKind} {v : Value} {l : List Nat} {w : World} (h : OwnN B e k v l w) (h0 : 0 < l.length) : ∃ g cap, v = .slice (some ⟨g, 0, none⟩) l.length cap ∧ B ≤ g ∧ g < w.heap.size := by
  rcases h.2 with ⟨_, h1⟩ | ⟨g, cap, cur, hv, hb, hg, _⟩
  · omega
  · exact ⟨g, cap, hv, hb, lt_of_block hg⟩
theorem nums_one (k : IntKind) (l : List Nat) : ∀ u ∈ nums k l, u.oneCell' = true := by
  intro u hu
  simp only [nums, List.mem_map] at hu
  obtain ⟨n, _, rfl⟩ := hu
  rfl
theorem nums_set (k : IntKind) (l : List Nat) (j x : Nat) : (nums k l).set j (.int k (x : Int)) = nums k (l.set j x) := by simp [nums, List.map_set]
theorem OwnN.but {B b : Nat} {e : TypeId} {k : IntKind} {v : Value} {l : List Nat} {w w' : World} (h : OwnN B e k v l w) (hb : But b w w') (ap : ∀ g, v.ownBlock = some g → b ≠ g) : OwnN B e k v l w' := by
  refine World.ownsRow.kept (row := some b) h ⟨hb.os, hb.tape, hb.output, hb.size, fun i hi hne => hb.block i hi (fun e => hne (by rw [e]))⟩ ?_
  rcases hv : v.ownBlock with _ | g
  · exact Or.inl rfl
  · exact Or.inr (fun e => ap g hv (Option.some.inj e).symm)
theorem OwnT.but {B b : Nat} {e : TypeId} {k : IntKind} {v : Value} {l : List Nat} {w w' : World} (h : OwnT B e k v l w) (hb : But b w w') (ap : ∀ g, v.ownBlock = some g → b ≠ g) : OwnT B e k v l w' :=
  h.kept fun g hg => hb.block g (h.lt g hg).2 (Ne.symm (ap g hg))
def Blk (b : Nat) (t : TypeId) (k : IntKind) (l : List Nat) (w : World) : Prop := w.heap[b]? = some (.cells (nums k l).toArray t (0, 0))
theorem Blk.lt {b : Nat} {t : TypeId} {k : IntKind} {l : List Nat} {w : World} (h : Blk b t k l w) : b < w.heap.size := lt_of_block h
theorem Blk.cell {b : Nat} {t : TypeId} {k : IntKind} {l : List Nat} {w : World} (h : Blk b t k l w) (j : Nat) (hj : j < l.length) : w.cell? ⟨b, j, none⟩ = some (.int k ((l.getD j 0 : Nat) : Int)) := by
  rw [Lib.cell_of_heap h j, List.getElem?_toArray, nums, List.getElem?_map, List.getElem?_eq_getElem hj, List.getD_eq_getElem?_getD, List.getElem?_eq_getElem hj]
  rfl
theorem Blk.frozen {b : Nat} {t : TypeId} {k : IntKind} {l : List Nat} {w : World} (h : Blk b t k l w) (j : Nat) : w.frozen? ⟨b, j, none⟩ = false := frozen_of_row w b j _ t h
theorem Blk.set {b : Nat} {t : TypeId} {k : IntKind} {l : List Nat} {w : World} (h : Blk b t k l w) (j x : Nat) : Blk b t k (l.set j x) (w.setCell ⟨b, j, none⟩ (.int k (x : Int))) := by
  have e := heap_setCell_at (o := j) (v := .int k (x : Int)) h
  rw [List.setIfInBounds_toArray, nums_set] at e
  exact e
theorem Blk.below {b : Nat} {t : TypeId} {k : IntKind} {l : List Nat} {w w' : World} (h : Blk b t k l w) (hb : Below w.heap.size w w') : Blk b t k l w' := (hb.block b h.lt).trans h
theorem Blk.but {b g : Nat} {t : TypeId} {k : IntKind} {l : List Nat} {w w' : World} (h : Blk b t k l w) (hb : But g w w') (hne : b ≠ g) : Blk b t k l w' := (hb.block b h.lt hne).trans h
theorem Blk.alloc {b : Nat} {t : TypeId} {k : IntKind} {l : List Nat} {w : World} (h : Blk b t k l w) (o : Obj) : Blk b t k l (w.alloc o) := (heap_alloc_old w o h.lt).trans h
theorem Blk.drawn {b : Nat} {t : TypeId} {k : IntKind} {l : List Nat} {w : World} (h : Blk b t k l w) (n : Nat) : Blk b t k l (w.drewN n) := h
theorem Blk.row {b : Nat} {t : TypeId} {k : IntKind} {l l' : List Nat} {w : World} (h : Blk b t k l w) : Blk b t k l' (w.setRow b (nums k l').toArray) := setRow_heap _ _ _ _ _ _ h
theorem But.setRow {b : Nat} {w w' : World} (h : But b w w') (cs : Array Value) : But b w (w'.setRow b cs) :=
  h.trans ⟨rfl, rfl, rfl, by simp, fun k _ hb => setRow_other w' b k cs hb⟩
theorem But.new {b g : Nat} {w w1 w2 : World} (h : But b w w1) (k : But g w1 w2) (hg : w.heap.size ≤ g) : But b w w2 :=
  ⟨k.os.trans h.os, k.tape.trans h.tape, k.output.trans h.output, Nat.le_trans h.size k.size, fun i hi hb => (k.block i (Nat.lt_of_lt_of_le hi h.size) (by omega)).trans (h.block i hi hb)⟩
theorem But.alloc {b : Nat} {w w' : World} (h : But b w w') (o : Obj) : But b w (w'.alloc o) := h.below ((Below.refl _ _).alloc (Nat.le_refl _) _)
theorem nums_size (k : IntKind) (l : List Nat) : (nums k l).toArray.size = l.length := by simp [nums]
theorem nums_all (k : IntKind) (l : List Nat) : (nums k l).toArray.all (·.oneCell') = true := by
  rw [Array.all_eq_true_iff_forall_mem]
  intro x hx
  exact nums_one k l x (by simpa using hx)
theorem run_index_nums {P : Program} (t e : TypeId) (n : Nat) (k : IntKind) (l : List Nat) (j : Nat) (w : World) (h : P.underlying t = some (.array n e)) (hl : l.length = n) (hz : ∀ w, (sizeOf e).run P w = .ok 1 w) (ha : ∀ w, (isAgg e).run P w = .ok false w) (hj : j < n) :
    (Instr.index t (.agg (nums k l).toArray) (.int .i64 (j : Int))).run P w = .ok (.int k ((l.getD j 0 : Nat) : Int)) w := by
  have h2 : (0 : Int) ≤ j ∧ (j : Int) < n := by omega
  have hn : (nums k l)[j]? = some (.int k ((l.getD j 0 : Nat) : Int)) := by
    rw [nums, List.getElem?_map, List.getElem?_eq_getElem (by omega), List.getD_eq_getElem?_getD, List.getElem?_eq_getElem (by omega)]
    rfl
  simp [Instr.index, run_underlying h, asIntOf, hj, go_sem, hz, ha]
  rw [hn]
  simp
theorem byteCells_nums (l : List UInt8) : Lib.byteCells l = nums .u8 (byteNs l) := by simp [Lib.byteCells, nums, byteNs]
theorem run_copy_bytes {P : Program} (w : World) (dT sT ty elem : TypeId) (g cap : Nat) (s : List UInt8) (l : List Nat) (t : TypeId)
    (hu : P.underlying dT = some (.slice elem)) (hs : (P.info? elem).map (·.size) = some 1) (hg : Blk g t .u8 l w) :
    (Builtin.copy_ #[dT, sT] ty #[.slice (some ⟨g, 0, none⟩) l.length cap, .string ⟨s.toArray⟩]).run P w =
      .ok (goInt (min s.length l.length)) (w.setRow g (nums .u8 (byteNs (s.take l.length) ++ l.drop s.length)).toArray) := by
  have hlen : (Lib.byteCells (s.take l.length)).length = min s.length l.length := by rw [Lib.byteCells_length, List.length_take, Nat.min_comm]
  have hst := run_storeCells_at P g 0 t (Lib.byteCells (s.take l.length)) 0 (nums .u8 l).toArray w hg (by rw [hlen, nums_size]; omega) (Lib.byteCells_one _)
  have htk : List.take (min s.length l.length) (List.map (fun b : UInt8 => Value.int IntKind.u8 (b.toNat : Int)) s) = Lib.byteCells (s.take l.length) := by
    rw [← List.map_take, Lib.byteCells]
    congr 1
    rcases Nat.le_total s.length l.length with h | h
    · rw [Nat.min_eq_left h, List.take_of_length_le (Nat.le_refl _), List.take_of_length_le h]
    · rw [Nat.min_eq_right h]
  have hsz : (⟨s.toArray⟩ : ByteArray).size = s.length := by simp [ByteArray.size]
  have hend : (nums .u8 (byteNs (s.take l.length) ++ l.drop s.length)) = Lib.byteCells (s.take l.length) ++ (nums .u8 l).drop (min s.length l.length) := by
    rw [byteCells_nums, nums, List.map_append]
    congr 1
    rcases Nat.le_total s.length l.length with h | h
    · rw [Nat.min_eq_left h, nums, List.map_drop]
    · rw [Nat.min_eq_right h, List.drop_of_length_le h, List.drop_of_length_le (by rw [nums_len]; exact Nat.le_refl _)]
      rfl
  rw [hlen] at hst
  rw [hend]
  simp only [Nat.add_zero] at hst
  cases hq : P.info? elem with
  | none => simp [hq] at hs
  | some i =>
    have hmin : s.length.min l.length = min s.length l.length := rfl
    simp [Builtin.copy_, run_underlying hu, Builtin.lenOf, Builtin.firstCells, sizeOf, typeInfo, hq, hsz, hmin]
    rw [htk, hst]
    simp [Result.andThen]
    congr 1
    omega
theorem wpList_copy_bytes {P : Program} {w : World} {ops : Array Oper} {rest : List Oper} {o : Oper} {a : Act} {Q : Exit → Act → World → Prop} (hgd : o.guard = none) (d x : Operand) (dT sT : TypeId)
    (ho : o.op = .call { callee := .builtin .copy, args := #[d, x], argTypes := #[dT, sT] }) (elem : TypeId) (hu : P.underlying dT = some (.slice elem)) (hs : (P.info? elem).map (·.size) = some 1)
    (g cap n : Nat) (s : List UInt8) (l : List Nat) (t : TypeId) (hn : n = l.length) (hd : a.eval d = .slice (some ⟨g, 0, none⟩) n cap) (hx : a.eval x = .string ⟨s.toArray⟩) (hg : Blk g t .u8 l w)
    (h : ∀ w', Hid (Blk g t .u8 (byteNs (s.take l.length) ++ l.drop s.length) w') → Hid (But g w w') → wpList P ops Q rest (a.put o.dst (goInt (min s.length l.length))) w') :
    wpList P ops Q (o :: rest) a w := by
  subst hn
  refine wpList_plain hgd fun K hK => ?_
  have hrun := run_copy_bytes (P := P) w dT sT o.type elem g cap s l t hu hs hg
  unfold Oper.wp
  simp [execOp, ho, resolve, invoke, builtin, hd, hx, hrun, Result.andThen]
  exact hK _ _ (h _ hg.row ((But.refl g w).setRow _))
theorem wpList_store_nums {P : Program} {w : World} {ops : Array Oper} {rest : List Oper} {o : Oper} {a : Act} {Q : Exit → Act → World → Prop} (hgd : o.guard = none) (ty : TypeId) (x y : Operand) (ho : o.op = .store ty x y)
    (hd : o.dst = none) (g : Nat) (k : IntKind) (l l' : List Nat) (t : TypeId) (hx : a.eval x = .pointer (some ⟨g, 0, none⟩)) (hy : a.eval y = .agg (nums k l').toArray)
    (hg : Blk g t k l w) (hi : (P.info? ty).map (·.size) = some l'.length) (hl : l.length = l'.length)
    (h : ∀ w', Hid (Blk g t k l' w') → Hid (But g w w') → wpList P ops Q rest a w') : wpList P ops Q (o :: rest) a w :=
  wpList_store_rowTo hgd ty x y ho hd g (nums k l').toArray hx hy t _ hg (by rw [nums_size]; exact hi) (by rw [nums_size, nums_size]; exact hl) (nums_all _ _) (h _ hg.row ((But.refl g w).setRow _))
theorem wpList_load_nums {P : Program} {w : World} {ops : Array Oper} {rest : List Oper} {o : Oper} {a : Act} {Q : Exit → Act → World → Prop} (hgd : o.guard = none) (ty : TypeId) (x : Operand) (ho : o.op = .load ty x)
    (g : Nat) (k : IntKind) (l : List Nat) (t : TypeId) (d : TypeDesc) (hx : a.eval x = .pointer (some ⟨g, 0, none⟩)) (hg : Blk g t k l w)
    (hu : P.underlying ty = some d) (hd : (match d with | .struct _ | .array _ _ => true | _ => false) = true) (hi : (P.info? ty).map (·.size) = some l.length)
    (h : wpList P ops Q rest (a.put o.dst (.agg (nums k l).toArray)) w) : wpList P ops Q (o :: rest) a w :=
  wpList_load_row hgd ty x ho g hx t _ _ d hg hu hd (by rw [nums_size]; exact hi) h
theorem results_nums {P : Program} {fn : Func} {p : Tmp} {ty : TypeId} (h : fn.results = #[.cell p ty]) (tmps : Array Value) (w : World) (g : Nat) (k : IntKind) (l : List Nat) (t : TypeId) (d : TypeDesc)
    (hp : tmps.getD p undef = .pointer (some ⟨g, 0, none⟩)) (hg : Blk g t k l w)
    (hu : P.underlying ty = some d) (hd : (match d with | .struct _ | .array _ _ => true | _ => false) = true) (hi : (P.info? ty).map (·.size) = some l.length) :
    (results fn tmps).run P w = .ok (.agg (nums k l).toArray) w :=
  results_cell_row h tmps w g t _ (0, 0) d hp hg hu hd (by rw [nums_size]; exact hi)
theorem byteNs_lt (r : List UInt8) : ∀ x ∈ byteNs r, x < 256 := by
  intro x h
  simp only [byteNs, List.mem_map] at h
  obtain ⟨b, _, rfl⟩ := h
  exact b.toNat_lt
def txt (l : List Nat) : List UInt8 := l.map UInt8.ofNat
theorem txt_len (l : List Nat) : (txt l).length = l.length := by simp [txt]
theorem byteNs_txt {l : List Nat} (h : ∀ x ∈ l, x < 256) : byteNs (txt l) = l := by
  induction l with
  | nil => rfl
  | cons y l ih =>
    have hy := h y (by simp)
    simp only [txt, byteNs, List.map_cons, List.map_map] at ih ⊢
    rw [ih (fun z hz => h z (by simp [hz]))]
    congr 1
    rw [UInt8.toNat_ofNat']
    omega
theorem byteNs_nums (s : List UInt8) : nums .u8 (byteNs s) = s.map fun b => Value.int .u8 (b.toNat : Int) := by simp [nums, byteNs]
theorem txt_inj {l m : List Nat} (hl : ∀ x ∈ l, x < 256) (hm : ∀ x ∈ m, x < 256) (h : txt l = txt m) : l = m := by
  rw [← byteNs_txt hl, ← byteNs_txt hm, h]
theorem txt_byteNs (s : List UInt8) : txt (byteNs s) = s := by
  induction s with
  | nil => rfl
  | cons b s ih =>
    rw [byteNs, List.map_cons, txt, List.map_cons, show UInt8.ofNat b.toNat = b by simp]
    exact congrArg _ ih
theorem txt_append (l m : List Nat) : txt (l ++ m) = txt l ++ txt m := by simp [txt]
theorem cells_txt {l : List Nat} (h : ∀ x ∈ l, x < 256) : nums .u8 l = (txt l).map Extern.Stop.cell := by
  have e : (txt l).map Extern.Stop.cell = nums .u8 (byteNs (txt l)) := (byteNs_nums (txt l)).symm
  rw [e, byteNs_txt h]
theorem txt_beq {a b : List Nat} (la : ∀ x ∈ a, x < 256) (lb : ∀ x ∈ b, x < 256) : (txt a == txt b) = (a == b) := by
  rw [Bool.eq_iff_iff, beq_iff_eq, beq_iff_eq]
  exact ⟨txt_inj la lb, fun h => by rw [h]⟩
theorem equal_nums {P : Program} (t e : TypeId) (n : Nat) (ht : P.underlying t = some (.array n e)) (he : P.underlying e = some (.int .u8)) (hsz : ∀ w, (sizeOf e).run P w = .ok 1 w)
    (a b : List Nat) (ha : a.length = n) (hb : b.length = n) (la : ∀ x ∈ a, x < 256) (lb : ∀ x ∈ b, x < 256) (w : World) :
    (Op.equalIn 10000 t (.agg (nums .u8 a).toArray) (.agg (nums .u8 b).toArray)).run P w = .ok (a == b) w := by
  rw [cells_txt la, cells_txt lb, run_equalIn_bytes w 9998 t e n ht he hsz (txt a) (txt b) (by rw [txt_len, ha]) (by rw [txt_len, hb]), txt_beq la lb]
theorem wp_region_class {P : Program} {id : Nat} {Q : Exit → Act → World → Prop} {a : Act} {w : World} {l : List Oper} (C : World → Prop) (hm : P.follows .mixedOrders = true) (hB : Region.lexB .any l.toArray = true) (hC : C w.drew)
    (h : wpQuiet P l.toArray C (fun a' => ∀ w', C w' → Q .normal a' w') l a) : (Code.region id l.toArray true).wp P Q a w :=
  wp_region_quiet (C := C) hm hB hC (by simpa using h)
theorem quiet_load_nums {P : Program} {o : Oper} {a : Act} {C : World → Prop} {K : Act → Prop} (ty : TypeId) (x : Operand) (ho : o.op = .load ty x) (b : Nat) (k : IntKind) (l : List Nat) (t : TypeId) (d : TypeDesc)
    (hx : a.eval x = .pointer (some ⟨b, 0, none⟩)) (hC : ∀ w, C w → Blk b t k l w) (hu : P.underlying ty = some d) (hd : (match d with | .struct _ | .array _ _ => true | _ => false) = true) (hi : (P.info? ty).map (·.size) = some l.length)
    (hk : K (a.put o.dst (.agg (nums k l).toArray))) : o.quiet P a C K := by
  refine ⟨_, fun w hw => ?_, hk⟩
  unfold Oper.quietAt execOp
  simp only [ho, hx, Instr.loadAt, Instr.sureAddr, Sem.run_bind, Sem.run_pure, Result.andThen_ok, run_loadVar_row w b t ty _ (0, 0) d (hC w hw) hu hd (by rw [nums_size]; exact hi)]
  exact ⟨rfl, rfl⟩
end Go.Proofs.YtpfhlhcnmeodbaaGreatDoor
namespace Go.Proofs.YtpfhlhcnmeodbaaGreatDoor
open Go.RowKit
structure DraftN where
  kind : Int
  key : List UInt8
  val : List UInt8
  ref : List Nat
deriving DecidableEq
structure OpN where
  d : DraftN
  author : Int
  depth : Int
  preds : List (List Nat)
deriving DecidableEq
def IdOk (l : List Nat) : Prop := l.length = 32 ∧ ∀ x ∈ l, x < 256
def zeroI : List Nat := List.replicate 32 0
theorem zeroI_ok : IdOk zeroI := ⟨List.length_replicate, fun x hx => by rw [(List.mem_replicate.1 hx).2]; decide⟩
def cmpN : List Nat → List Nat → Int
  | a :: x, b :: y => if a < b then -1 else if b < a then 1 else cmpN x y
  | _, _ => 0
def GoodD (d : DraftN) : Prop := 1 ≤ d.kind ∧ d.kind ≤ 5 ∧ 1 ≤ d.key.length ∧ d.key.length ≤ 16 ∧ d.val.length ≤ 64 ∧ (d.kind ≤ 3 → d.ref = zeroI) ∧ (d.kind = 5 → d.ref ≠ zeroI ∧ d.val = [])
instance (d : DraftN) : Decidable (GoodD d) := by unfold GoodD; infer_instance
def AscN (L : List (List Nat)) : Prop := ∀ i, i < L.length → 0 < i → cmpN (L.getD (i - 1) []) (L.getD i []) = -1
instance (L : List (List Nat)) : Decidable (AscN L) := by unfold AscN; infer_instance
def GoodO (o : OpN) : Prop := AscN o.preds ∧ (o.preds = [] → o.depth = 1) ∧ (o.preds ≠ [] → 2 ≤ o.depth) ∧ o.preds.length ≤ 32 ∧ GoodD o.d ∧ 0 ≤ o.author ∧ o.author ≤ 4
instance (o : OpN) : Decidable (GoodO o) := by unfold GoodO; infer_instance
def draftB (d : DraftN) : List UInt8 := listB [numB d.kind.toNat, d.key, d.val, txt d.ref]
theorem draftB_len (d : DraftN) : (draftB d).length = 2 + (numB (numB d.kind.toNat).length).length + (numB d.kind.toNat).length + (textB d.key).length + (textB d.val).length + (textB (txt d.ref)).length := by
  rw [draftB, listB_length]
  simp only [List.length_cons, List.length_nil, Nat.zero_add, Nat.reduceAdd, textsB_cons, List.length_append]
  have e : (numB 4).length = 2 := by simp [numB, dig]
  have e2 : (textsB []).length = 0 := rfl
  rw [e, e2, textB_length (numB _)]
  omega
theorem textB_le9 {t : List UInt8} (h : t.length < 9223372036854775808) : (textB t).length ≤ t.length + 9 := by
  have := numB_length_9 h
  rw [textB_length]
  omega
theorem numB_len9 {n : Nat} (h : n < 9223372036854775808) : (numB n).length ≤ 9 := numB_length_9 h
theorem draftB_le {d : DraftN} (hk : d.kind < 9223372036854775808) (h1 : d.key.length ≤ 512) (h2 : d.val.length ≤ 512) (h3 : d.ref.length = 32) : (draftB d).length ≤ 1200 := by
  have e := draftB_len d
  have a1 := numB_len9 (n := d.kind.toNat) (by omega)
  have a2 := numB_len9 (n := (numB d.kind.toNat).length) (by omega)
  have a3 := textB_le9 (t := d.key) (by omega)
  have a4 := textB_le9 (t := d.val) (by omega)
  have a5 := textB_le9 (t := txt d.ref) (by rw [txt_len]; omega)
  rw [txt_len] at a5
  omega
end Go.Proofs.YtpfhlhcnmeodbaaGreatDoor
namespace Go.Proofs.YtpfhlhcnmeodbaaGreatDoor
open Go.RowKit
structure EntN where
  kind : Int
  d : DraftN
  src : Int
  seq : Int
  prev : List Nat
  mask : Int
  pay : List UInt8
  sig : List UInt8
deriving DecidableEq
structure EntN.Ok (e : EntN) : Prop where
  ref : IdOk e.d.ref
  prev : IdOk e.prev
def noD : DraftN := ⟨0, [], [], zeroI⟩
def noE : EntN := ⟨0, noD, 0, 0, zeroI, 0, [], []⟩
theorem noE_ok : noE.Ok := ⟨zeroI_ok, zeroI_ok⟩
def OutE (e : EntN) : Prop := 1 ≤ e.mask ∧ e.mask ≤ 31 ∧ e.pay.length ≤ 2048
def BareE (e : EntN) : Prop := e.src = 0 ∧ e.seq = 0 ∧ e.prev = zeroI ∧ e.sig = []
def GoodE (e : EntN) : Prop :=
  (e.kind = 1 ∧ GoodD e.d ∧ BareE e ∧ e.mask = 0 ∧ e.pay = []) ∨
  (e.kind = 2 ∧ OutE e ∧ e.d = noD ∧ 0 ≤ e.src ∧ e.src ≤ 4 ∧ 1 ≤ e.seq ∧ e.sig.length ≤ 1024) ∨
  (e.kind = 3 ∧ OutE e ∧ e.d = noD ∧ BareE e)
instance (e : EntN) : Decidable (OutE e) := by unfold OutE; infer_instance
instance (e : EntN) : Decidable (BareE e) := by unfold BareE; infer_instance
instance (e : EntN) : Decidable (GoodE e) := by unfold GoodE; infer_instance
def partsE (e : EntN) : List (List UInt8) :=
  if e.kind = 1 then [numB 1, draftB e.d]
  else if e.kind = 2 then [numB 2, numB e.src.toNat, numB e.seq.toNat, txt e.prev, numB e.mask.toNat, e.pay, e.sig]
  else [numB 3, numB e.mask.toNat, e.pay]
def entB (e : EntN) : List UInt8 := if GoodE e then listB (partsE e) else []
theorem entB_good {e : EntN} (h : GoodE e) : entB e = listB (partsE e) := if_pos h
theorem entB_bad {e : EntN} (h : ¬ GoodE e) : entB e = [] := if_neg h
structure EntN.Fit (e : EntN) : Prop where
  ok : e.Ok
  seq : e.seq < 9223372036854775808
theorem partsE_le {e : EntN} (h : GoodE e) (hf : e.Fit) : (listB (partsE e)).length ≤ 8000 := by
  rw [listB_length]
  have e2 : (textsB []).length = 0 := rfl
  have n9 : ∀ n, n < 9223372036854775808 → (numB n).length ≤ 9 := fun n h => numB_len9 h
  have t9 : ∀ t : List UInt8, t.length < 9223372036854775808 → (textB t).length ≤ t.length + 9 := fun t h => textB_le9 h
  have hs := hf.seq
  rcases h with ⟨hk, hd, -, -, -⟩ | ⟨hk, ⟨h1, h2, h3⟩, -, h4, h5, h6, h7⟩ | ⟨hk, ⟨h1, h2, h3⟩, -, -⟩
  · have hd1 : (draftB e.d).length ≤ 1200 := draftB_le (by have := hd.2.1; omega) (by have := hd.2.2.2.1; omega) (by have := hd.2.2.2.2.1; omega) hf.ok.ref.1
    have a1 := n9 1 (by decide)
    have a2 := t9 (numB 1) (by omega)
    have a3 := t9 (draftB e.d) (by omega)
    have a4 := n9 2 (by decide)
    rw [partsE, if_pos hk]
    simp only [List.length_cons, List.length_nil, Nat.zero_add, Nat.reduceAdd, textsB_cons, List.length_append, e2]
    omega
  · have a1 := n9 2 (by decide)
    have a2 := t9 (numB 2) (by omega)
    have b1 := n9 e.src.toNat (by omega)
    have b2 := t9 (numB e.src.toNat) (by omega)
    have c1 := n9 e.seq.toNat (by omega)
    have c2 := t9 (numB e.seq.toNat) (by omega)
    have d1 := n9 e.mask.toNat (by omega)
    have d2 := t9 (numB e.mask.toNat) (by omega)
    have p1 : (txt e.prev).length = 32 := by rw [txt_len]; exact hf.ok.prev.1
    have p2 := t9 (txt e.prev) (by omega)
    have p3 := t9 e.pay (by omega)
    have p4 := t9 e.sig (by omega)
    have a4 := n9 7 (by decide)
    rw [partsE, if_neg (by omega), if_pos hk]
    simp only [List.length_cons, List.length_nil, Nat.zero_add, Nat.reduceAdd, textsB_cons, List.length_append, e2]
    omega
  · have a1 := n9 3 (by decide)
    have a2 := t9 (numB 3) (by omega)
    have d1 := n9 e.mask.toNat (by omega)
    have d2 := t9 (numB e.mask.toNat) (by omega)
    have p3 := t9 e.pay (by omega)
    rw [partsE, if_neg (by omega), if_neg (by omega)]
    simp only [List.length_cons, List.length_nil, Nat.zero_add, Nat.reduceAdd, textsB_cons, List.length_append, e2]
    omega
theorem entB_le {e : EntN} (hf : e.Fit) : (entB e).length ≤ 8000 := by
  by_cases h : GoodE e
  · rw [entB_good h]
    exact partsE_le h hf
  · rw [entB_bad h]
    decide
end Go.Proofs.YtpfhlhcnmeodbaaGreatDoor
