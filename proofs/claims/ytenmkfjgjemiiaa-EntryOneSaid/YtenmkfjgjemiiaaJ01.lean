/-
  Joined: Plain mathematics of layer 1's encodings: a number's bytes, what bytes begin with. It knows of no program.; What all walks of this program share: frames, slices of texts, small facts on texts.; What speaks of no program: rows and blocks of numbers, bytes and texts, in the memory; copies, stores, loads; regions whose operations keep a class of worlds.; Operations as plain mathematics: which can be, their bytes, what bytes are.; Entries as plain mathematics: which can be, their bytes, what bytes are.; Regions whose order is open: laws; what every layer over digests wants.; Rows of elements of thirty-two bytes: what lies there, what is pushed, stored and read; a slice of arrays that came in.; Objects that live in memory of their own: what a call turns (Only), what it owns behind it (Turn); rows of values of one cell (RowV).; Operations of a region whose order is open, one by one (for the steps of wp_region_free): fields, loads, conversions, literal slices of one value, values pushed.; Drafts and operations as values.; Structs built: a literal of any struct type by its layout (wpList_build_val, quiet_build_val, op_build_val: the value as an equation of P.built).; Drafts built.; Drafts compared.; Rows of blocks of K cells (arrays, structs), one behind the other: a block read, laid over, pushed; copy; a call of a function value.; Entries as values: where their fields lie, how they are built and compared.; The developers' GoodDraft.; An operator whose answer is known, in a plain region.
-/
import Derived.BigQuiet
import Derived.BigRegion
import Derived.ChangeAlike
import Derived.Deep.Cut
import Derived.Deep.MidRow
import Derived.Deep.Quiet
import Derived.Deep.QuietTactic
import Derived.Deep.RegionWith
import Derived.Deep.Slices
import Derived.Great.BuildSlice
import Derived.Laws.BytesString
import Derived.Laws.CopyOwn
import Derived.Laws.DeepStrings4
import Derived.Laws.IdiomCopy
import Derived.Laws.ResultCell
import Derived.Laws.Rows
import Derived.Laws.StructEq
import Derived.Lib.BitFns
import Derived.Lib.BufferWrite
import Derived.Lib.Builder
import Derived.Lib.Hide
import Derived.Maps.AppendAt
import Derived.OpenShut
import Derived.RegionTactic
import Derived.StillTail
import Derived.StillTailTactics
import Derived.Stop.BytesEq
import Derived.Test.YtenmkfjgjemiiaaChecked
import Derived.WalkKit
namespace Go.Proofs.Ytenmkfjgjemiiaa
def dig (n : Nat) : List UInt8 := if _h : n = 0 then [] else dig (n / 256) ++ [UInt8.ofNat (n % 256)]
termination_by n
decreasing_by omega
theorem dig_zero : dig 0 = [] := by unfold dig; simp
theorem dig_pos {n : Nat} (h : n ≠ 0) : dig n = dig (n / 256) ++ [UInt8.ofNat (n % 256)] := by rw [dig]; simp [h]
def val (l : List UInt8) : Nat := l.foldl (fun a d => a * 256 + d.toNat) 0
theorem val_snoc (l : List UInt8) (d : UInt8) : val (l ++ [d]) = val l * 256 + d.toNat := by simp [val]
theorem toNat_ofNat_mod (n : Nat) : (UInt8.ofNat (n % 256)).toNat = n % 256 := by simp
theorem val_dig (n : Nat) : val (dig n) = n := by
  induction n using Nat.strongRecOn with
  | ind n ih =>
    by_cases h : n = 0
    · subst h; rw [dig_zero]; rfl
    · rw [dig_pos h, val_snoc, ih (n / 256) (by omega), toNat_ofNat_mod]; omega
def numB (n : Nat) : List UInt8 := UInt8.ofNat (dig n).length :: dig n
theorem dig_length_le (k : Nat) : ∀ n, n < 256 ^ k → (dig n).length ≤ k := by
  induction k with
  | zero => intro n h; have : n = 0 := by simpa using h
            subst this; rw [dig_zero]; simp
  | succ k ih =>
    intro n h
    by_cases h0 : n = 0
    · subst h0; rw [dig_zero]; simp
    · rw [dig_pos h0]
      have h1 : n / 256 < 256 ^ k := by
        rw [Nat.div_lt_iff_lt_mul (by decide)]; rw [Nat.pow_succ] at h; exact h
      have := ih _ h1
      simp; omega
theorem dig_length_ge (k : Nat) : ∀ n, (dig n).length ≤ k → n < 256 ^ k := by
  induction k with
  | zero =>
    intro n h
    by_cases h0 : n = 0
    · subst h0; decide
    · rw [dig_pos h0] at h; simp at h
  | succ k ih =>
    intro n h
    by_cases h0 : n = 0
    · subst h0; exact Nat.pow_pos (by decide)
    · rw [dig_pos h0] at h
      have h1 := ih (n / 256) (by simp at h; omega)
      rw [Nat.pow_succ]
      rwa [Nat.div_lt_iff_lt_mul (by decide)] at h1
theorem dig_length_8 {n : Nat} (h : n < 9223372036854775808) : (dig n).length ≤ 8 :=
  dig_length_le 8 n (Nat.lt_of_lt_of_le h (by decide))
theorem numB_length (n : Nat) : (numB n).length = 1 + (dig n).length := by simp [numB]; omega
theorem numB_length_9 {n : Nat} (h : n < 9223372036854775808) : (numB n).length ≤ 9 := by
  have := dig_length_8 h; rw [numB_length]; omega
theorem numB_pos (n : Nat) : 1 ≤ (numB n).length := by rw [numB_length]; omega
def takeNum (s : List UInt8) : Option (Nat × List UInt8) :=
  match s with
  | [] => none
  | k :: t => if k.toNat ≤ t.length ∧ val (t.take k.toNat) < 9223372036854775808 ∧ numB (val (t.take k.toNat)) = k :: t.take k.toNat then some (val (t.take k.toNat), t.drop k.toNat) else none
theorem takeNum_numB {n : Nat} (h : n < 9223372036854775808) (r : List UInt8) : takeNum (numB n ++ r) = some (n, r) := by
  have h8 := dig_length_8 h
  have e : (UInt8.ofNat (dig n).length).toNat = (dig n).length := by simp; omega
  simp only [numB, List.cons_append, takeNum, e]
  rw [List.take_left, val_dig, List.drop_left]
  rw [if_pos ⟨by simp, h, rfl⟩]
def takeText (s : List UInt8) : Option (List UInt8 × List UInt8) :=
  match takeNum s with
  | none => none
  | some (n, r) => if n ≤ r.length then some (r.take n, r.drop n) else none
def textB (t : List UInt8) : List UInt8 := numB t.length ++ t
theorem takeText_textB {t : List UInt8} (h : t.length < 9223372036854775808) (r : List UInt8) : takeText (textB t ++ r) = some (t, r) := by
  simp only [takeText, textB, List.append_assoc, takeNum_numB h]
  rw [if_pos (by simp), List.take_left, List.drop_left]
def takeTexts : Nat → List UInt8 → Option (List (List UInt8) × List UInt8)
  | 0, s => some ([], s)
  | k + 1, s =>
    match takeText s with
    | none => none
    | some (t, r) => match takeTexts k r with
      | none => none
      | some (l, q) => some (t :: l, q)
def textsB (l : List (List UInt8)) : List UInt8 := (l.map textB).flatten
theorem textsB_cons (t : List UInt8) (l : List (List UInt8)) : textsB (t :: l) = textB t ++ textsB l := by simp [textsB]
theorem textsB_snoc (t : List UInt8) (l : List (List UInt8)) : textsB (l ++ [t]) = textsB l ++ textB t := by simp [textsB]
theorem takeTexts_textsB : ∀ (l : List (List UInt8)) (r : List UInt8), (∀ t ∈ l, t.length < 9223372036854775808) → takeTexts l.length (textsB l ++ r) = some (l, r) := by
  intro l
  induction l with
  | nil => intro r _; simp [takeTexts, textsB]
  | cons t l ih =>
    intro r h
    simp only [List.length_cons, takeTexts, textsB_cons, List.append_assoc]
    rw [takeText_textB (h t (by simp))]
    simp only [ih r (fun t ht => h t (by simp [ht]))]
def takeList (s : List UInt8) : Option (List (List UInt8) × List UInt8) :=
  match takeNum s with
  | none => none
  | some (n, r) => if n ≤ 4096 then takeTexts n r else none
def listB (l : List (List UInt8)) : List UInt8 := numB l.length ++ textsB l
theorem takeList_listB {l : List (List UInt8)} (hl : l.length ≤ 4096) (h : ∀ t ∈ l, t.length < 9223372036854775808) (r : List UInt8) : takeList (listB l ++ r) = some (l, r) := by
  simp only [takeList, listB, List.append_assoc]
  rw [takeNum_numB (by omega)]
  simp only [hl, if_true, takeTexts_textsB l r h]
theorem bitLenAux_spec : ∀ (f n : Nat), n < 2 ^ f → (n = 0 → Lib.bitLenAux f n = 0) ∧ (n ≠ 0 → 2 ^ (Lib.bitLenAux f n - 1) ≤ n ∧ n < 2 ^ Lib.bitLenAux f n ∧ 1 ≤ Lib.bitLenAux f n) := by
  intro f
  induction f with
  | zero => intro n h; simp at h; subst h; exact ⟨fun _ => rfl, fun h => absurd rfl h⟩
  | succ f ih =>
    intro n h
    refine ⟨fun e => by subst e; simp [Lib.bitLenAux], fun e => ?_⟩
    have e2 : Lib.bitLenAux (f + 1) n = 1 + Lib.bitLenAux f (n / 2) := by simp [Lib.bitLenAux, e]
    rw [e2]
    have h2 : n / 2 < 2 ^ f := by rw [Nat.pow_succ] at h; omega
    obtain ⟨i0, i1⟩ := ih (n / 2) h2
    by_cases e3 : n / 2 = 0
    · rw [i0 e3]; have : n = 1 := by omega
      subst this; decide
    · obtain ⟨a, b, c⟩ := i1 e3
      generalize Lib.bitLenAux f (n / 2) = m at *
      obtain ⟨q, rfl⟩ : ∃ q, m = q + 1 := ⟨m - 1, by omega⟩
      simp only [Nat.add_sub_cancel] at a
      rw [show 1 + (q + 1) - 1 = q + 1 by omega, show 1 + (q + 1) = q + 1 + 1 by omega, Nat.pow_succ 2 (q + 1), Nat.pow_succ 2 q] at *
      omega
theorem bitLen_le {n : Nat} (h : n < 9223372036854775808) : Lib.bitLen n ≤ 63 := by
  obtain ⟨h0, h1⟩ := bitLenAux_spec 64 n (Nat.lt_of_lt_of_le h (by decide))
  unfold Lib.bitLen
  by_cases e : n = 0
  · rw [h0 e]; omega
  · obtain ⟨a, _, _⟩ := h1 e
    apply Decidable.byContradiction
    intro hc
    have : 2 ^ 63 ≤ 2 ^ (Lib.bitLenAux 64 n - 1) := Nat.pow_le_pow_right (by decide) (by omega)
    have e63 : (2 : Nat) ^ 63 = 9223372036854775808 := by decide
    omega
theorem bitLen_dig {n : Nat} (h : n < 9223372036854775808) : (Lib.bitLen n + 7) / 8 = (dig n).length := by
  obtain ⟨h0, h1⟩ := bitLenAux_spec 64 n (Nat.lt_of_lt_of_le h (by decide))
  unfold Lib.bitLen
  by_cases e : n = 0
  · rw [h0 e, e, dig_zero]; rfl
  · obtain ⟨a, b, c⟩ := h1 e
    generalize Lib.bitLenAux 64 n = m at *
    have p8 : ∀ k, 256 ^ k = 2 ^ (8 * k) := fun k => by rw [show (256 : Nat) = 2 ^ 8 by decide, ← Nat.pow_mul]
    apply Nat.le_antisymm
    · apply Decidable.byContradiction
      intro hc
      have g := dig_length_ge _ n (Nat.le_refl _)
      rw [p8] at g
      have : 2 ^ (8 * (dig n).length) ≤ 2 ^ (m - 1) := Nat.pow_le_pow_right (by decide) (by omega)
      omega
    · apply dig_length_le
      rw [p8]
      exact Nat.lt_of_lt_of_le b (Nat.pow_le_pow_right (by decide) (by omega))
theorem dig_get (n : Nat) : ∀ (j : Nat) (h : j < (dig n).length), ((dig n)[j]).toNat = n / 256 ^ ((dig n).length - 1 - j) % 256 := by
  induction n using Nat.strongRecOn with
  | ind n ih =>
    intro j h
    by_cases h0 : n = 0
    · subst h0; rw [dig_zero] at h; simp at h
    · have e := dig_pos h0
      have hl : (dig n).length = (dig (n / 256)).length + 1 := by rw [e]; simp
      simp only [hl, Nat.add_sub_cancel]
      by_cases hj : j < (dig (n / 256)).length
      · have := ih (n / 256) (by omega) j hj
        simp only [e, List.getElem_append_left hj]
        rw [this, Nat.div_div_eq_div_mul, ← Nat.pow_succ', show ((dig (n / 256)).length - 1 - j).succ = (dig (n / 256)).length - j by omega]
      · have hj2 : j = (dig (n / 256)).length := by omega
        subst hj2
        simp [e]
theorem textsB_append (a b : List (List UInt8)) : textsB (a ++ b) = textsB a ++ textsB b := by simp [textsB]
theorem textsB_parts (l : List (List UInt8)) (q : Nat) (h : q < l.length) : (textsB l).length = (textsB (l.take q)).length + (textB l[q]).length + (textsB (l.drop (q + 1))).length := by
  have e : l = l.take q ++ (l[q] :: l.drop (q + 1)) := by rw [← List.drop_eq_getElem_cons h, List.take_append_drop]
  have := congrArg (fun x => (textsB x).length) e
  simp only [textsB_append, textsB_cons, List.length_append] at this
  omega
theorem textB_length (t : List UInt8) : (textB t).length = (numB t.length).length + t.length := by simp [textB]
theorem listB_length (l : List (List UInt8)) : (listB l).length = (numB l.length).length + (textsB l).length := by simp [listB]
theorem textsB_take_succ (l : List (List UInt8)) (q : Nat) (h : q < l.length) : textsB (l.take (q + 1)) = textsB (l.take q) ++ numB l[q].length ++ l[q] := by
  rw [List.take_succ_eq_append_getElem h, textsB_snoc, textB, List.append_assoc]
def splitB (s : List UInt8) : Option (List (List UInt8)) :=
  if 262144 < s.length then none else match takeList s with | some (l, []) => some l | _ => none
end Go.Proofs.Ytenmkfjgjemiiaa
namespace Go.Proofs.Ytenmkfjgjemiiaa
open Go.RowKit
structure But (b : Nat) (w w' : World) : Prop where
  os : w'.os = w.os
  tape : w'.tape = w.tape
  output : w'.output = w.output
  size : w.heap.size ≤ w'.heap.size
  block : ∀ k, k < w.heap.size → k ≠ b → w'.heap[k]? = w.heap[k]?
theorem But.refl (b : Nat) (w : World) : But b w w := ⟨rfl, rfl, rfl, Nat.le_refl _, fun _ _ _ => rfl⟩
theorem But.trans {b : Nat} {w1 w2 w3 : World} (h : But b w1 w2) (k : But b w2 w3) : But b w1 w3 :=
  ⟨k.os.trans h.os, k.tape.trans h.tape, k.output.trans h.output, Nat.le_trans h.size k.size, fun i hi hb => (k.block i (Nat.lt_of_lt_of_le hi h.size) hb).trans (h.block i hi hb)⟩
theorem But.toBelow {b B : Nat} {w0 w w' : World} (h : Below B w0 w) (k : But b w w') (hb : B ≤ b) (hB : B ≤ w.heap.size) : Below B w0 w' :=
  h.trans ⟨k.os, k.tape, k.output, k.size, fun i hi => k.block i (by omega) (by omega)⟩
def strs (l : List (List UInt8)) : List Value := l.map fun t => Value.string ⟨t.toArray⟩
theorem strs_length (l : List (List UInt8)) : (strs l).length = l.length := by simp [strs]
def OwnS (B : Nat) (v : Value) (l : List (List UInt8)) (w : World) : Prop := w.ownsRow B 9 1 v l.length (strs l)
def StrsAt (ao : Option Addr) (l : List (List UInt8)) (w : World) : Prop :=
  l = [] ∨ ∃ b o, ao = some ⟨b, o, none⟩ ∧ b < w.heap.size ∧ ∀ j (h : j < l.length), w.cell? ⟨b, o + j, none⟩ = some (.string ⟨l[j].toArray⟩)
theorem StrsAt.below {ao : Option Addr} {l : List (List UInt8)} {w w' : World} (h : StrsAt ao l w) (k : Below w.heap.size w w') : StrsAt ao l w' := by
  rcases h with h | ⟨b, o, ha, hb, hc⟩
  · exact Or.inl h
  · exact Or.inr ⟨b, o, ha, Nat.lt_of_lt_of_le hb k.size, fun j hj => (k.cell (p := ⟨b, o + j, none⟩) hb).trans (hc j hj)⟩
theorem strsAt_own {B : Nat} {ao : Option Addr} {c : Nat} {l : List (List UInt8)} {w : World} (h : OwnS B (.slice ao l.length c) l w) : StrsAt ao l w := by
  rcases h.2 with ⟨_, h0⟩ | ⟨g, cap, cur, hv, hg, hb, hcap, hm, hcs, htk⟩
  · exact Or.inl (List.length_eq_zero_iff.1 h0)
  · simp only [Value.slice.injEq] at hv
    obtain ⟨rfl, _, rfl⟩ := hv
    refine Or.inr ⟨g, 0, rfl, lt_of_block hb, fun j hj => ?_⟩
    have := Lib.cell_of_heap hb (0 + j)
    rw [this]
    have e := congrArg (fun x => x[j]?) htk
    simp only [List.getElem?_take] at e
    rw [if_pos (by omega)] at e
    rw [Nat.zero_add, ← Array.getElem?_toList, e, strs]
    simp [hj]
end Go.Proofs.Ytenmkfjgjemiiaa
namespace Go.Proofs.Ytenmkfjgjemiiaa
open Go.RowKit
def nums (k : IntKind) (l : List Nat) : List Value := l.map fun (n : Nat) => Value.int k (n : Int)
theorem nums_len (k : IntKind) (l : List Nat) : (nums k l).length = l.length := by simp [nums]
def byteNs (s : List UInt8) : List Nat := s.map (fun b => b.toNat)
theorem nums_one (k : IntKind) (l : List Nat) : ∀ u ∈ nums k l, u.oneCell' = true := by
  intro u hu
  simp only [nums, List.mem_map] at hu
  obtain ⟨n, _, rfl⟩ := hu
  rfl
def Blk (b : Nat) (t : TypeId) (k : IntKind) (l : List Nat) (w : World) : Prop := w.heap[b]? = some (.cells (nums k l).toArray t (0, 0))
theorem But.setRow {b : Nat} {w w' : World} (h : But b w w') (cs : Array Value) : But b w (w'.setRow b cs) :=
  h.trans ⟨rfl, rfl, rfl, by simp, fun k _ hb => setRow_other w' b k cs hb⟩
theorem nums_size (k : IntKind) (l : List Nat) : (nums k l).toArray.size = l.length := by simp [nums]
def txt (l : List Nat) : List UInt8 := l.map UInt8.ofNat
theorem txt_len (l : List Nat) : (txt l).length = l.length := by simp [txt]
theorem byteNs_txt {l : List Nat} (h : ∀ x ∈ l, x < 256) : byteNs (txt l) = l := by
  induction l with
  | nil => rfl
  | cons y l ih =>
    have hy := h y (by simp)
    simp only [txt, byteNs, List.map_cons, List.map_map] at ih ⊢
    rw [ih (fun z hz => h z (by simp [hz]))]
    congr 1
    rw [UInt8.toNat_ofNat']
    omega
theorem byteNs_nums (s : List UInt8) : nums .u8 (byteNs s) = s.map fun b => Value.int .u8 (b.toNat : Int) := by simp [nums, byteNs]
theorem txt_inj {l m : List Nat} (hl : ∀ x ∈ l, x < 256) (hm : ∀ x ∈ m, x < 256) (h : txt l = txt m) : l = m := by
  rw [← byteNs_txt hl, ← byteNs_txt hm, h]
theorem cells_txt {l : List Nat} (h : ∀ x ∈ l, x < 256) : nums .u8 l = (txt l).map Extern.Stop.cell := by
  have e : (txt l).map Extern.Stop.cell = nums .u8 (byteNs (txt l)) := (byteNs_nums (txt l)).symm
  rw [e, byteNs_txt h]
theorem txt_beq {a b : List Nat} (la : ∀ x ∈ a, x < 256) (lb : ∀ x ∈ b, x < 256) : (txt a == txt b) = (a == b) := by
  rw [Bool.eq_iff_iff, beq_iff_eq, beq_iff_eq]
  exact ⟨txt_inj la lb, fun h => by rw [h]⟩
theorem equal_nums {P : Program} (t e : TypeId) (n : Nat) (ht : P.underlying t = some (.array n e)) (he : P.underlying e = some (.int .u8)) (hsz : ∀ w, (sizeOf e).run P w = .ok 1 w)
    (a b : List Nat) (ha : a.length = n) (hb : b.length = n) (la : ∀ x ∈ a, x < 256) (lb : ∀ x ∈ b, x < 256) (w : World) :
    (Op.equalIn 10000 t (.agg (nums .u8 a).toArray) (.agg (nums .u8 b).toArray)).run P w = .ok (a == b) w := by
  rw [cells_txt la, cells_txt lb, run_equalIn_bytes w 9998 t e n ht he hsz (txt a) (txt b) (by rw [txt_len, ha]) (by rw [txt_len, hb]), txt_beq la lb]
theorem wp_region_class {P : Program} {id : Nat} {Q : Exit → Act → World → Prop} {a : Act} {w : World} {l : List Oper} (C : World → Prop) (hm : P.follows .mixedOrders = true) (hB : Region.lexB .any l.toArray = true) (hC : C w.drew)
    (h : wpQuiet P l.toArray C (fun a' => ∀ w', C w' → Q .normal a' w') l a) : (Code.region id l.toArray true).wp P Q a w :=
  wp_region_quiet (C := C) hm hB hC (by simpa using h)
end Go.Proofs.Ytenmkfjgjemiiaa
namespace Go.Proofs.Ytenmkfjgjemiiaa
open Go.RowKit
structure DraftN where
  kind : Int
  key : List UInt8
  val : List UInt8
  ref : List Nat
deriving DecidableEq
structure OpN where
  d : DraftN
  author : Int
  depth : Int
  preds : List (List Nat)
deriving DecidableEq
def IdOk (l : List Nat) : Prop := l.length = 32 ∧ ∀ x ∈ l, x < 256
def zeroI : List Nat := List.replicate 32 0
theorem zeroI_ok : IdOk zeroI := ⟨List.length_replicate, fun x hx => by rw [(List.mem_replicate.1 hx).2]; decide⟩
def cmpN : List Nat → List Nat → Int
  | a :: x, b :: y => if a < b then -1 else if b < a then 1 else cmpN x y
  | _, _ => 0
def GoodD (d : DraftN) : Prop := 1 ≤ d.kind ∧ d.kind ≤ 5 ∧ 1 ≤ d.key.length ∧ d.key.length ≤ 16 ∧ d.val.length ≤ 64 ∧ (d.kind ≤ 3 → d.ref = zeroI) ∧ (d.kind = 5 → d.ref ≠ zeroI ∧ d.val = [])
instance (d : DraftN) : Decidable (GoodD d) := by unfold GoodD; infer_instance
def AscN (L : List (List Nat)) : Prop := ∀ i, i < L.length → 0 < i → cmpN (L.getD (i - 1) []) (L.getD i []) = -1
instance (L : List (List Nat)) : Decidable (AscN L) := by unfold AscN; infer_instance
def GoodO (o : OpN) : Prop := AscN o.preds ∧ (o.preds = [] → o.depth = 1) ∧ (o.preds ≠ [] → 2 ≤ o.depth) ∧ o.preds.length ≤ 32 ∧ GoodD o.d ∧ 0 ≤ o.author ∧ o.author ≤ 4
instance (o : OpN) : Decidable (GoodO o) := by unfold GoodO; infer_instance
def draftB (d : DraftN) : List UInt8 := listB [numB d.kind.toNat, d.key, d.val, txt d.ref]
theorem splitB_listB {l : List (List UInt8)} (hl : l.length ≤ 4096) (h : (listB l).length ≤ 262144) : splitB (listB l) = some l := by
  have ht : ∀ t ∈ l, t.length < 9223372036854775808 := fun t ht => by
    have h1 := listB_length l
    have h2 : t.length ≤ (textsB l).length := by
      obtain ⟨q, hq, rfl⟩ := List.getElem_of_mem ht
      have := textsB_parts l q hq
      have := textB_length l[q]
      omega
    omega
  have h1 := takeList_listB hl ht []
  rw [List.append_nil] at h1
  unfold splitB
  rw [if_neg (by omega), h1]
def allNum (s : List UInt8) : Option Nat := match takeNum s with | some (n, []) => some n | _ => none
def readD (s : List UInt8) : Option DraftN := match splitB s with
  | some [k, key, val, r] => if r.length = 32 then (match allNum k with
    | some n => if GoodD ⟨n, key, val, byteNs r⟩ then some ⟨n, key, val, byteNs r⟩ else none
    | none => none) else none
  | _ => none
theorem allNum_numB {n : Nat} (h : n < 9223372036854775808) : allNum (numB n) = some n := by
  have := takeNum_numB h []
  rw [List.append_nil] at this
  rw [allNum, this]
theorem draftB_len (d : DraftN) : (draftB d).length = 2 + (numB (numB d.kind.toNat).length).length + (numB d.kind.toNat).length + (textB d.key).length + (textB d.val).length + (textB (txt d.ref)).length := by
  rw [draftB, listB_length]
  simp only [List.length_cons, List.length_nil, Nat.zero_add, Nat.reduceAdd, textsB_cons, List.length_append]
  have e : (numB 4).length = 2 := by simp [numB, dig]
  have e2 : (textsB []).length = 0 := rfl
  rw [e, e2, textB_length (numB _)]
  omega
theorem textB_le9 {t : List UInt8} (h : t.length < 9223372036854775808) : (textB t).length ≤ t.length + 9 := by
  have := numB_length_9 h
  rw [textB_length]
  omega
theorem numB_len9 {n : Nat} (h : n < 9223372036854775808) : (numB n).length ≤ 9 := numB_length_9 h
theorem draftB_le {d : DraftN} (hk : d.kind < 9223372036854775808) (h1 : d.key.length ≤ 512) (h2 : d.val.length ≤ 512) (h3 : d.ref.length = 32) : (draftB d).length ≤ 1200 := by
  have e := draftB_len d
  have a1 := numB_len9 (n := d.kind.toNat) (by omega)
  have a2 := numB_len9 (n := (numB d.kind.toNat).length) (by omega)
  have a3 := textB_le9 (t := d.key) (by omega)
  have a4 := textB_le9 (t := d.val) (by omega)
  have a5 := textB_le9 (t := txt d.ref) (by rw [txt_len]; omega)
  rw [txt_len] at a5
  omega
theorem readD_draftB {d : DraftN} (hk : 0 ≤ d.kind ∧ d.kind < 9223372036854775808) (h1 : d.key.length ≤ 512) (h2 : d.val.length ≤ 512) (h3 : IdOk d.ref) : readD (draftB d) = if GoodD d then some d else none := by
  have hl := draftB_le hk.2 h1 h2 h3.1
  have hs : splitB (draftB d) = some [numB d.kind.toNat, d.key, d.val, txt d.ref] := splitB_listB (by simp) (by rw [← draftB]; omega)
  have hd : (⟨((d.kind.toNat : Nat) : Int), d.key, d.val, byteNs (txt d.ref)⟩ : DraftN) = d := by rw [byteNs_txt h3.2, Int.toNat_of_nonneg hk.1]
  unfold readD
  rw [hs]
  simp only
  rw [if_pos (by rw [txt_len]; exact h3.1), allNum_numB (by omega)]
  simp only [hd]
end Go.Proofs.Ytenmkfjgjemiiaa
namespace Go.Proofs.Ytenmkfjgjemiiaa
open Go.RowKit
structure EntN where
  kind : Int
  d : DraftN
  src : Int
  seq : Int
  prev : List Nat
  mask : Int
  pay : List UInt8
  sig : List UInt8
deriving DecidableEq
structure EntN.Ok (e : EntN) : Prop where
  ref : IdOk e.d.ref
  prev : IdOk e.prev
def noD : DraftN := ⟨0, [], [], zeroI⟩
def noE : EntN := ⟨0, noD, 0, 0, zeroI, 0, [], []⟩
def OutE (e : EntN) : Prop := 1 ≤ e.mask ∧ e.mask ≤ 31 ∧ e.pay.length ≤ 2048
def BareE (e : EntN) : Prop := e.src = 0 ∧ e.seq = 0 ∧ e.prev = zeroI ∧ e.sig = []
def GoodE (e : EntN) : Prop :=
  (e.kind = 1 ∧ GoodD e.d ∧ BareE e ∧ e.mask = 0 ∧ e.pay = []) ∨
  (e.kind = 2 ∧ OutE e ∧ e.d = noD ∧ 0 ≤ e.src ∧ e.src ≤ 4 ∧ 1 ≤ e.seq ∧ e.sig.length ≤ 1024) ∨
  (e.kind = 3 ∧ OutE e ∧ e.d = noD ∧ BareE e)
instance (e : EntN) : Decidable (OutE e) := by unfold OutE; infer_instance
instance (e : EntN) : Decidable (BareE e) := by unfold BareE; infer_instance
instance (e : EntN) : Decidable (GoodE e) := by unfold GoodE; infer_instance
def partsE (e : EntN) : List (List UInt8) :=
  if e.kind = 1 then [numB 1, draftB e.d]
  else if e.kind = 2 then [numB 2, numB e.src.toNat, numB e.seq.toNat, txt e.prev, numB e.mask.toNat, e.pay, e.sig]
  else [numB 3, numB e.mask.toNat, e.pay]
def entB (e : EntN) : List UInt8 := if GoodE e then listB (partsE e) else []
def numI (s : List UInt8) : Int := match allNum s with | some n => n | none => -1
def candE : List (List UInt8) → EntN
  | [k, t] => if numI k = 1 then ⟨1, (readD t).getD noD, 0, 0, zeroI, 0, [], []⟩ else noE
  | [k, m, p] => if numI k = 3 then ⟨3, noD, 0, 0, zeroI, numI m, p, []⟩ else noE
  | [k, f, q, r, m, p, g] => if numI k = 2 ∧ r.length = 32 then ⟨2, noD, numI f, numI q, byteNs r, numI m, p, g⟩ else noE
  | _ => noE
def readE (s : List UInt8) : Option EntN := match splitB s with
  | some l => if GoodE (candE l) then some (candE l) else none
  | none => none
theorem numI_numB {n : Nat} (h : n < 9223372036854775808) : numI (numB n) = n := by rw [numI, allNum_numB h]
theorem entB_good {e : EntN} (h : GoodE e) : entB e = listB (partsE e) := if_pos h
theorem entB_bad {e : EntN} (h : ¬ GoodE e) : entB e = [] := if_neg h
structure EntN.Fit (e : EntN) : Prop where
  ok : e.Ok
  seq : e.seq < 9223372036854775808
theorem partsE_le {e : EntN} (h : GoodE e) (hf : e.Fit) : (listB (partsE e)).length ≤ 8000 := by
  rw [listB_length]
  have e2 : (textsB []).length = 0 := rfl
  have n9 : ∀ n, n < 9223372036854775808 → (numB n).length ≤ 9 := fun n h => numB_len9 h
  have t9 : ∀ t : List UInt8, t.length < 9223372036854775808 → (textB t).length ≤ t.length + 9 := fun t h => textB_le9 h
  have hs := hf.seq
  rcases h with ⟨hk, hd, -, -, -⟩ | ⟨hk, ⟨h1, h2, h3⟩, -, h4, h5, h6, h7⟩ | ⟨hk, ⟨h1, h2, h3⟩, -, -⟩
  · have hd1 : (draftB e.d).length ≤ 1200 := draftB_le (by have := hd.2.1; omega) (by have := hd.2.2.2.1; omega) (by have := hd.2.2.2.2.1; omega) hf.ok.ref.1
    have a1 := n9 1 (by decide)
    have a2 := t9 (numB 1) (by omega)
    have a3 := t9 (draftB e.d) (by omega)
    have a4 := n9 2 (by decide)
    rw [partsE, if_pos hk]
    simp only [List.length_cons, List.length_nil, Nat.zero_add, Nat.reduceAdd, textsB_cons, List.length_append, e2]
    omega
  · have a1 := n9 2 (by decide)
    have a2 := t9 (numB 2) (by omega)
    have b1 := n9 e.src.toNat (by omega)
    have b2 := t9 (numB e.src.toNat) (by omega)
    have c1 := n9 e.seq.toNat (by omega)
    have c2 := t9 (numB e.seq.toNat) (by omega)
    have d1 := n9 e.mask.toNat (by omega)
    have d2 := t9 (numB e.mask.toNat) (by omega)
    have p1 : (txt e.prev).length = 32 := by rw [txt_len]; exact hf.ok.prev.1
    have p2 := t9 (txt e.prev) (by omega)
    have p3 := t9 e.pay (by omega)
    have p4 := t9 e.sig (by omega)
    have a4 := n9 7 (by decide)
    rw [partsE, if_neg (by omega), if_pos hk]
    simp only [List.length_cons, List.length_nil, Nat.zero_add, Nat.reduceAdd, textsB_cons, List.length_append, e2]
    omega
  · have a1 := n9 3 (by decide)
    have a2 := t9 (numB 3) (by omega)
    have d1 := n9 e.mask.toNat (by omega)
    have d2 := t9 (numB e.mask.toNat) (by omega)
    have p3 := t9 e.pay (by omega)
    rw [partsE, if_neg (by omega), if_neg (by omega)]
    simp only [List.length_cons, List.length_nil, Nat.zero_add, Nat.reduceAdd, textsB_cons, List.length_append, e2]
    omega
theorem partsE_len (e : EntN) : (partsE e).length ≤ 7 := by
  unfold partsE
  split
  · simp
  · split <;> simp
theorem candE_partsE {e : EntN} (h : GoodE e) (hf : e.Fit) : candE (partsE e) = e := by
  obtain ⟨kind, d, src, seq, prev, mask, pay, sig⟩ := e
  have hs := hf.seq
  have hp := hf.ok.prev
  have hr := hf.ok.ref
  simp only at hs hp hr
  rcases h with ⟨hk, hd, ⟨b1, b2, b3, b4⟩, hm, hy⟩ | ⟨hk, ⟨h1, h2, h3⟩, hd, h4, h5, h6, h7⟩ | ⟨hk, ⟨h1, h2, h3⟩, hd, b1, b2, b3, b4⟩
  · simp only at hk hd b1 b2 b3 b4 hm hy
    subst hk b1 b2 b3 b4 hm hy
    have h1 : readD (draftB d) = some d := by
      rw [readD_draftB ⟨by have := hd.1; omega, by have := hd.2.1; omega⟩ (by have := hd.2.2.2.1; omega) (by have := hd.2.2.2.2.1; omega) hr, if_pos hd]
    simp only [partsE, if_true, candE]
    rw [if_pos (show numI (numB 1) = 1 from numI_numB (by decide)), h1]
    rfl
  · simp only at hk h1 h2 h3 hd h4 h5 h6 h7
    subst hk hd
    simp only [partsE]
    rw [if_neg (by decide), if_pos trivial]
    simp only [candE]
    rw [if_pos ⟨show numI (numB 2) = 2 from numI_numB (by decide), by rw [txt_len]; exact hp.1⟩, numI_numB (by omega), numI_numB (by omega), numI_numB (by omega), byteNs_txt hp.2]
    simp only [EntN.mk.injEq, true_and, and_true]
    omega
  · simp only at hk h1 h2 h3 hd b1 b2 b3 b4
    subst hk hd b1 b2 b3 b4
    simp only [partsE]
    rw [if_neg (by decide), if_neg (by decide)]
    simp only [candE]
    rw [if_pos (show numI (numB 3) = 3 from numI_numB (by decide)), numI_numB (by omega)]
    simp only [EntN.mk.injEq, true_and, and_true]
    omega
theorem readE_nil : readE [] = none := by decide +kernel
theorem readE_entB {e : EntN} (hf : e.Fit) : readE (entB e) = if GoodE e then some e else none := by
  by_cases h : GoodE e
  · rw [if_pos h, entB_good h, readE, splitB_listB (Nat.le_trans (partsE_len e) (by decide)) (Nat.le_trans (partsE_le h hf) (by decide))]
    simp only
    rw [candE_partsE h hf, if_pos h]
  · rw [if_neg h, entB_bad h, readE_nil]
end Go.Proofs.Ytenmkfjgjemiiaa
namespace Go.Proofs.Ytenmkfjgjemiiaa
open Go.RowKit
section
variable {P : Program} {ops : Array Oper} {md : Region.Mode} {C : World → Prop}
def headIn (P : Program) (md : Region.Mode) (ops : Array Oper) (C : World → Prop) (n : Nat) (L : Array Bool → Act → Prop) : Nat → Array Bool → Act → Prop
  | 0, seen, a => L seen a
  | f + 1, seen, a => Region.ready md ops seen ≠ [] ∧ ∀ i, i ∈ Region.ready md ops seen → i < n ∧ qOp P ops C i (headIn P md ops C n L f (seen.setIfInBounds i true)) a
theorem any_of_headIn {n g : Nat} {L : Array Bool → Act → Prop} {Q : Exit → Act → World → Prop} (hL : ∀ seen a w, C w → L seen a → wpAny P md ops Q g seen a w) (f : Nat) :
    ∀ (seen : Array Bool) (a : Act) (w : World), C w → headIn P md ops C n L f seen a → wpAny P md ops Q (f + g) seen a w := by
  induction f with
  | zero => intro seen a w hw h; rw [Nat.zero_add]; exact hL seen a w hw h
  | succ f ih =>
    intro seen a w hw h
    rw [Nat.add_right_comm]
    exact ⟨fun e => (h.1 e).elim, fun i hi => wpOp_of_qOp hw (fun a' w' hw' h' => ih _ a' w' hw' h') (h.2 i hi).2⟩
theorem headIn_first {n i : Nat} {o : Oper} {v : Value} {L : Array Bool → Act → Prop} (ho : ops[i]? = some o) (hns : Region.noSelect ops = true) (hsink : Region.sinkB md ops n = true) (hchain : Region.chainB md ops n = true) (hn : n < ops.size) (hi : i < n)
    (hend : ∀ seen a, L seen a → ∀ j ∈ Region.ready md ops seen, n ≤ j) (f : Nat) :
    ∀ (seen : Array Bool) (a : Act), HeadInv md ops n seen →
      (∀ j p, ops[j]? = some p → j ≠ i → seen.getD j true = false → (∀ e ∈ p.after, Region.binds md e = true → e.on ≠ i) → o.apart ops p = true) →
      i ∈ Region.ready md ops seen → YieldsIn P ops C o v a → headIn P md ops C n L f (seen.setIfInBounds i true) (a.put o.dst v) → headIn P md ops C n L (f + 1) seen a := by
  have hsel := Region.noSelect_spec hns
  induction f with
  | zero =>
    intro seen a inv _ hr hy H
    refine ⟨List.ne_nil_of_mem hr, fun j hj => ?_⟩
    have hjn : j < n := Nat.lt_of_not_le fun h => tail_waits hsink hchain hn inv _ i rfl hi (mem_ready.1 hr).1 j h hj
    refine ⟨hjn, ?_⟩
    by_cases e : j = i
    · subst e
      exact hy.qOp ho H
    · exact absurd (hend _ _ H j (ready_mono hj e)) (by omega)
  | succ f ih =>
    intro seen a inv hfree hr hy H
    refine ⟨List.ne_nil_of_mem hr, fun j hj => ?_⟩
    have hjn : j < n := Nat.lt_of_not_le fun h => tail_waits hsink hchain hn inv _ i rfl hi (mem_ready.1 hr).1 j h hj
    refine ⟨hjn, ?_⟩
    by_cases e : j = i
    · subst e
      exact hy.qOp ho H
    · obtain ⟨hjs, p, hp, hall⟩ := mem_ready.1 hj
      have hno : ∀ x ∈ p.after, Region.binds md x = true → x.on ≠ i := fun x hx hb ex => by
        have h1 := hall x hx hb
        rw [ex, getD_both (mem_ready.1 hr).1] at h1
        cases h1
      refine qOp_mono (fun a' h3 => ?_) (qOp_put hp (hfree j p hp e hjs hno) (fun cs b => hsel i o cs b ho) (fun cs b => hsel j p cs b hp) hy (H.2 j (ready_mono hj e)).2)
      refine ih _ a' (inv.set hj hjn) (fun k q hq hk hs hnk => ?_) (ready_mono hr (Ne.symm e)) h3.1 ?_
      · refine hfree k q hq hk ?_ hnk
        by_cases ek : j = k
        · subst ek; exact hjs
        · rwa [getD_set_ne true ek] at hs
      · rw [Array.setIfInBounds_comm _ _ e]
        exact h3.2
theorem headIn_lex {n g : Nat} {M : Act → Prop} (hns : Region.noSelect ops = true) (hsink : Region.sinkB md ops n = true) (hchain : Region.chainB md ops n = true) (hn : n < ops.size) (l : List Oper) :
    ∀ (k : Nat) (seen : Array Bool) (a : Act), (∀ j, j < l.length → l[j]? = ops[k + j]?) → k + l.length = n → HeadInv md ops n seen → Region.lexHead md ops g l.length k seen = true → wpQuiet P ops C M l a →
    headIn P md ops C n (fun seen' a' => Region.seqB md ops g n seen' = true ∧ M a') l.length seen a := by
  induction l with
  | nil =>
    intro k seen a _ hk _ hB h
    obtain rfl : k = n := hk
    exact ⟨hB, h⟩
  | cons o l ih =>
    intro k seen a hl hk inv hB h
    have ho : ops[k]? = some o := by simpa using (hl 0 (by simp)).symm
    have hlen : (o :: l).length = l.length + 1 := rfl
    rw [hlen] at hk hB
    simp only [Region.lexHead, Bool.and_eq_true] at hB
    have hkr : k ∈ Region.ready md ops seen := by simpa using hB.1.1
    obtain ⟨v, hy, hK⟩ := yieldsIn_of_qOp ho (show qOp P ops C k (wpQuiet P ops C M l) a by unfold qOp; simp only [ho]; exact h)
    refine headIn_first ho hns hsink hchain hn (by omega) (fun seen' a' hL => seqB_ready hL.1) l.length seen a inv (Region.free_spec ho hB.1.2) hkr hy (ih (k + 1) _ _ (fun j hj => ?_) (by omega) (inv.set hkr (by omega)) hB.2 hK)
    have := hl (j + 1) (by simp; omega)
    rw [List.getElem?_cons_succ] at this
    rw [this]
    congr 1
    omega
theorem wp_region_class_tail {id : Nat} {Q : Exit → Act → World → Prop} {a : Act} {w : World} {l : List Oper} (C : World → Prop) (n : Nat) (hm : P.follows .mixedOrders = true) (hB : Region.lexTailB .any l.toArray n = true) (hC : C w.drew)
    (h : wpQuiet P l.toArray C (fun a' => ∀ w', C w' → wpList P l.toArray Q (l.drop n) a' w') (l.take n) a) : (Code.region id l.toArray true).wp P Q a w := by
  simp only [Region.lexTailB, Bool.and_eq_true, decide_eq_true_eq] at hB
  obtain ⟨⟨⟨⟨hns, hn⟩, hsink⟩, hchain⟩, hlex⟩ := hB
  have hsz : l.toArray.size = l.length := by simp
  have ht : (l.take n).length = n := by rw [List.length_take]; omega
  have hd : (l.drop n).length = l.toArray.size - n := by rw [List.length_drop, hsz]
  have inv : HeadInv .any l.toArray n (Array.replicate l.toArray.size false) :=
    ⟨Array.size_replicate, fun j p _ hs => (by rw [getD_replicate_false] at hs; cases hs), fun t _ ht' => getD_in (by rw [Array.size_replicate]; exact ht') (getD_replicate_false _ _)⟩
  have H := headIn_lex (md := .any) (g := l.toArray.size - n) hns hsink hchain hn (l.take n) 0 _ a (fun j hj => by
    rw [ht] at hj
    simp [hj]) (by omega) inv (by rw [ht]; exact hlex) h
  have A := any_of_headIn (Q := Q) (g := l.toArray.size - n) (fun seen a' w' hw' hL => by
    have := wpAny_of_seq (md := .any) (Q' := Q) (l.drop n) n seen a' w' (fun j => by simp [List.getElem?_drop]) (by rw [hd]; exact hL.1) (hL.2 w' hw')
    rwa [hd] at this) _ _ a w.drew hC H
  rw [ht, show n + (l.toArray.size - n) = l.toArray.size by omega] at A
  exact wp_region_any hm A
end
end Go.Proofs.Ytenmkfjgjemiiaa
namespace Go.Proofs.Ytenmkfjgjemiiaa
open Go.RowKit
section
variable {P : Program}
structure OpWp (P : Program) (o : Oper) (a : Act) (w : World) (K : Act → World → Prop) (Q : Exit → Act → World → Prop) : Prop where
  out : Oper.wp P o a w K Q
theorem wpList_load_want {w : World} {ops : Array Oper} {rest : List Oper} {o : Oper} {a : Act} {Q : Exit → Act → World → Prop} (hw : Region.wanted o (yielded ops a.tmps) = true) (ty : TypeId) (x : Operand) (ho : o.op = .load ty x)
    (g : Nat) (k : IntKind) (l : List Nat) (t : TypeId) (d : TypeDesc) (hx : a.eval x = .pointer (some ⟨g, 0, none⟩)) (hg : Blk g t k l w)
    (hu : P.underlying ty = some d) (hd : (match d with | .struct _ | .array _ _ => true | _ => false) = true) (hi : (P.info? ty).map (·.size) = some l.length)
    (h : wpList P ops Q rest (a.put o.dst (.agg (nums k l).toArray)) w) : wpList P ops Q (o :: rest) a w :=
  BigFrame.wpList_want hw fun _ hK => wp_load_row ty x ho g hx t _ _ d hg hu hd (by rw [nums_size]; exact hi) (hK _ _ h)
structure Shut (p : Prop) : Prop where
  out : p
theorem op_alloc {o : Oper} {a : Act} {w : World} {K : Act → World → Prop} {Q : Exit → Act → World → Prop} (ty : TypeId) (ho : o.op = .alloc ty) (z : Array Value) (hz : ∀ w, (Instr.alloc ty true (.tuple #[])).run P w = .ok (.pointer (some ⟨w.heap.size, 0, none⟩)) (w.alloc (.cells z ty)))
    (h : K (a.put o.dst (.pointer (some ⟨w.heap.size, 0, none⟩))) (w.alloc (.cells z ty))) : OpWp P o a w K Q := by
  refine ⟨?_⟩
  unfold Oper.wp execOp
  simp only [ho, Sem.run_bind, Sem.run_pure, Result.andThen_ok, hz]
  exact h
def Cells (b : Nat) (t : TypeId) (cs : Array Value) (w : World) : Prop := w.heap[b]? = some (.cells cs t (0, 0))
theorem Cells.lt {b : Nat} {t : TypeId} {cs : Array Value} {w : World} (h : Cells b t cs w) : b < w.heap.size := lt_of_block h
theorem Cells.below {b : Nat} {t : TypeId} {cs : Array Value} {w w' : World} (h : Cells b t cs w) (hb : Below w.heap.size w w') : Cells b t cs w' := (hb.block b h.lt).trans h
theorem quiet_load_cells {o : Oper} {a : Act} {C : World → Prop} {K : Act → Prop} (ty : TypeId) (x : Operand) (ho : o.op = .load ty x) (b : Nat) (cs : Array Value) (t : TypeId) (d : TypeDesc)
    (hx : a.eval x = .pointer (some ⟨b, 0, none⟩)) (hC : ∀ w, C w → Cells b t cs w) (hu : P.underlying ty = some d) (hd : (match d with | .struct _ | .array _ _ => true | _ => false) = true) (hi : (P.info? ty).map (·.size) = some cs.size)
    (hk : K (a.put o.dst (.agg cs))) : o.quiet P a C K := by
  refine ⟨_, fun w hw => ?_, hk⟩
  unfold Oper.quietAt execOp
  simp only [ho, hx, Instr.loadAt, Instr.sureAddr, Sem.run_bind, Sem.run_pure, Result.andThen_ok, run_loadVar_row w b t ty _ (0, 0) d (hC w hw) hu hd hi]
  exact ⟨rfl, rfl⟩
theorem wpList_load_cells {w : World} {ops : Array Oper} {rest : List Oper} {o : Oper} {a : Act} {Q : Exit → Act → World → Prop} (hgd : o.guard = none) (ty : TypeId) (x : Operand) (ho : o.op = .load ty x)
    (g : Nat) (cs : Array Value) (t : TypeId) (d : TypeDesc) (hx : a.eval x = .pointer (some ⟨g, 0, none⟩)) (hg : Cells g t cs w)
    (hu : P.underlying ty = some d) (hd : (match d with | .struct _ | .array _ _ => true | _ => false) = true) (hi : (P.info? ty).map (·.size) = some cs.size)
    (h : wpList P ops Q rest (a.put o.dst (.agg cs)) w) : wpList P ops Q (o :: rest) a w :=
  wpList_load_row hgd ty x ho g hx t _ _ d hg hu hd hi h
theorem wpList_store_cells {w : World} {ops : Array Oper} {rest : List Oper} {o : Oper} {a : Act} {Q : Exit → Act → World → Prop} (hgd : o.guard = none) (ty : TypeId) (x y : Operand) (ho : o.op = .store ty x y)
    (hd : o.dst = none) (g : Nat) (cs cs' : Array Value) (t : TypeId) (hx : a.eval x = .pointer (some ⟨g, 0, none⟩)) (hy : a.eval y = .agg cs')
    (hg : Cells g t cs w) (hi : (P.info? ty).map (·.size) = some cs'.size) (hl : cs.size = cs'.size) (h1 : cs'.all (·.oneCell') = true)
    (h : ∀ w', Hid (Cells g t cs' w') → Hid (But g w w') → wpList P ops Q rest a w') : wpList P ops Q (o :: rest) a w :=
  wpList_store_rowTo hgd ty x y ho hd g cs' hx hy t _ hg hi hl h1 (h _ (setRow_heap _ _ _ _ _ _ hg) ((But.refl g w).setRow _))
end
end Go.Proofs.Ytenmkfjgjemiiaa
namespace Go.Proofs.Ytenmkfjgjemiiaa
open Go.RowKit
theorem run_loadVar_cell {P : Program} (w : World) (ty : TypeId) (p : Addr) (v : Value) (hc : w.cell? p = some v) (hi : ∀ w, (isAgg ty).run P w = .ok false w) : (loadVar ty p).run P w = .ok v w := by
  simp [loadVar, hi, hc, go_sem]
theorem quiet_load_cell {P : Program} {o : Oper} {a : Act} {C : World → Prop} {K : Act → Prop} (ty : TypeId) (x : Operand) (ho : o.op = .load ty x) (p : Addr) (v : Value)
    (hx : a.eval x = .pointer (some p)) (hC : ∀ w, C w → w.cell? p = some v) (hi : ∀ w, (isAgg ty).run P w = .ok false w) (hk : K (a.put o.dst v)) : o.quiet P a C K := by
  refine ⟨_, fun w hw => ?_, hk⟩
  unfold Oper.quietAt execOp
  simp only [ho, hx, Instr.loadAt, Instr.sureAddr, Sem.run_bind, Sem.run_pure, Result.andThen_ok, run_loadVar_cell w ty p v (hC w hw) hi]
  exact ⟨rfl, rfl⟩
end Go.Proofs.Ytenmkfjgjemiiaa
namespace Go.Proofs.Ytenmkfjgjemiiaa
open Go.RowKit Go.ChangeShapes Go.WideShapes
theorem wpList_load_id {P : Program} {ops : Array Oper} {rest : List Oper} {o : Oper} {a : Act} {w : World} {Q : Exit → Act → World → Prop} (hgd : o.guard = none) (ty : TypeId) (x : Operand) (ho : o.op = .load ty x)
    (b off : Nat) (l : List Nat) (d : TypeDesc) (hx : a.eval x = .pointer (some ⟨b, off, none⟩)) (hc : w.rangeAt b off (nums .u8 l))
    (hu : P.underlying ty = some d) (hd : d.isRow = true) (hi : (P.info? ty).map (·.size) = some l.length)
    (h : wpList P ops Q rest (a.put o.dst (.agg (nums .u8 l).toArray)) w) : wpList P ops Q (o :: rest) a w :=
  wpList_load_mid hgd ty x ho b off hx _ d hc hu hd (by rw [nums_len]; exact hi) h
theorem rangeAt_belowI {b o B : Nat} {cs : List Value} {w w' : World} (h : w.rangeAt b o cs) (hb : Below B w w') (hB : b < B) : w'.rangeAt b o cs := fun j v hv => (hb.cell (p := ⟨b, o + j, none⟩) hB).trans (h j v hv)
theorem equal_idI (a b : List Nat) (ha : a.length = 32) (hb : b.length = 32) (la : ∀ x ∈ a, x < 256) (lb : ∀ x ∈ b, x < 256) (w : World) :
    (Op.equalIn 10000 26 (.agg (nums .u8 a).toArray) (.agg (nums .u8 b).toArray)).run Try.prog w = .ok (a == b) w :=
  equal_nums _ _ _ Try.underlying26 Try.underlying5 Try.sizeOf5 a b ha hb la lb w
end Go.Proofs.Ytenmkfjgjemiiaa
namespace Go.Proofs.Ytenmkfjgjemiiaa
open Go.RowKit
theorem Cells.at {g : Nat} {t : TypeId} {cs : Array Value} {w : World} (h : Cells g t cs w) (j : Nat) : w.cell? ⟨g, j, none⟩ = cs[j]? := Lib.cell_of_heap h j
theorem quiet_conv {P : Program} {o : Oper} {a : Act} {C : World → Prop} {K : Act → Prop} (t u : TypeId) (x : Operand) (ho : o.op = .convert t u x) (v r : Value) (hx : a.eval x = v)
    (hC : ∀ w, C w → (convert t u v).run P w = .ok r w) (hk : K (a.put o.dst r)) : o.quiet P a C K := by
  refine ⟨_, fun w hw => ?_, hk⟩
  unfold Oper.quietAt execOp
  simp only [ho, hx, Sem.run_bind, hC w hw, Result.andThen_ok, Sem.run_pure]
  exact ⟨rfl, rfl⟩
end Go.Proofs.Ytenmkfjgjemiiaa
namespace Go.Proofs.Ytenmkfjgjemiiaa
open Go.RowKit
theorem op_bin {P : Program} {o : Oper} {a : Act} {w : World} {K : Act → World → Prop} {Q : Exit → Act → World → Prop} (op : BinOp) (t u : TypeId) (x y : Operand) (ho : o.op = .binOp op t x y u) (vx vy r : Value) (hx : a.eval x = vx) (hy : a.eval y = vy)
    (hg : ∀ w, (eqGuard op t x y vx vy).run P w = .ok () w) (hr : ∀ w, (binOp op t vx vy).run P w = .ok r w) (h : K (a.put o.dst r) w) : OpWp P o a w K Q := by
  refine ⟨?_⟩
  unfold Oper.wp execOp
  simp only [ho, hx, hy, Sem.run_bind, Sem.run_pure, hg, hr, Result.andThen_ok]
  exact h
end Go.Proofs.Ytenmkfjgjemiiaa
namespace Go.Proofs.Ytenmkfjgjemiiaa
open Go.RowKit Go.BigFrame
def draftL (d : DraftN) : List Value := .int .i64 d.kind :: .string ⟨d.key.toArray⟩ :: .string ⟨d.val.toArray⟩ :: nums .u8 d.ref
def draftV (d : DraftN) : Array Value := (draftL d).toArray
theorem draftL_len {d : DraftN} (h : d.ref.length = 32) : (draftL d).length = 35 := by simp [draftL, nums_len, h]
theorem draftL_one (d : DraftN) : ∀ u ∈ draftL d, u.oneCell' = true := fun u hu => by
  simp only [draftL, List.mem_cons] at hu
  rcases hu with rfl | rfl | rfl | hu
  · rfl
  · rfl
  · rfl
  · exact nums_one _ _ u hu
theorem zeroI_lit : (nums .u8 zeroI).toArray = #[.int .u8 0, .int .u8 0, .int .u8 0, .int .u8 0, .int .u8 0, .int .u8 0, .int .u8 0, .int .u8 0, .int .u8 0, .int .u8 0, .int .u8 0, .int .u8 0, .int .u8 0, .int .u8 0, .int .u8 0, .int .u8 0, .int .u8 0, .int .u8 0, .int .u8 0, .int .u8 0, .int .u8 0, .int .u8 0, .int .u8 0, .int .u8 0, .int .u8 0, .int .u8 0, .int .u8 0, .int .u8 0, .int .u8 0, .int .u8 0, .int .u8 0, .int .u8 0] := rfl
theorem Try.sizeI : (Try.prog.info? 26).map (·.size) = some 32 := by kernel_rfl
theorem draft_cells {g : Nat} {t : TypeId} {d : DraftN} {w : World} (h : Cells g t (draftV d) w) : w.cell? ⟨g, 0, none⟩ = some (.int .i64 d.kind) ∧ w.cell? ⟨g, 1, none⟩ = some (.string ⟨d.key.toArray⟩) ∧ w.cell? ⟨g, 2, none⟩ = some (.string ⟨d.val.toArray⟩) ∧ w.rangeAt g 3 (nums .u8 d.ref) := by
  refine ⟨by rw [h.at]; rfl, by rw [h.at]; rfl, by rw [h.at]; rfl, fun j v hj => ?_⟩
  rw [h.at, draftV, List.getElem?_toArray, draftL, Nat.add_comm, List.getElem?_cons_succ, List.getElem?_cons_succ, List.getElem?_cons_succ]
  exact hj
theorem val_nil_beq (v : List UInt8) : (v == []) = decide (v = []) := by cases v <;> simp
end Go.Proofs.Ytenmkfjgjemiiaa
namespace Go.Proofs.Ytenmkfjgjemiiaa
open Go.RowKit
def putL (xs : List Value) : Nat → List Value → List Value
  | _, [] => xs
  | o, v :: r => putL (xs.set o v) (o + 1) r
theorem fold_putL (off : Nat) : ∀ (vs : List Value) (cs : Array Value) (k : Nat), List.foldl (fun (cs : Array Value) (x : Value × Nat) => cs.setIfInBounds (off + x.2) x.1) cs (vs.zipIdx k) = (putL cs.toList (off + k) vs).toArray
  | [], cs, k => by simp [putL]
  | v :: r, cs, k => by rw [List.zipIdx_cons, List.foldl_cons, fold_putL off r, putL]; simp [Nat.add_assoc]
theorem putL_mid : ∀ (vs xs ys zs : List Value), vs.length = ys.length → putL (xs ++ (ys ++ zs)) xs.length vs = xs ++ (vs ++ zs)
  | [], xs, ys, zs, h => by
    obtain rfl : ys = [] := List.length_eq_zero_iff.1 h.symm
    rfl
  | v :: r, xs, ys, zs, h => by
    cases ys with
    | nil => cases h
    | cons y ys =>
      have ih := putL_mid r (xs ++ [v]) ys zs (by simpa using h)
      rw [List.length_append, List.length_singleton] at ih
      rw [putL, List.cons_append, List.set_append_right _ _ (Nat.le_refl _), Nat.sub_self, List.set_cons_zero]
      simpa using ih
theorem fill_lay (place : Nat → Option (Nat × Nat)) (i off size : Nat) (v : Value) (rest : List (Nat × Value)) (xs ys zs vs : List Value) (hp : place i = some (off, size)) (hv : v.cells.toList = vs) (h1 : vs.length = size) (h2 : ys.length = size) (h3 : xs.length = off) :
    Instr.fill place (xs ++ (ys ++ zs)).toArray ((i, v) :: rest) = Instr.fill place (xs ++ (vs ++ zs)).toArray rest := by
  have hc : v.cells.size = size := by rw [← h1, ← hv, Array.length_toList]
  rw [Instr.fill]
  simp only [hp]
  rw [if_neg (by simp [hc]; omega)]
  congr 1
  rw [← Array.foldl_toList, Array.toList_zipIdx, fold_putL off, hv]
  show (putL (xs ++ (ys ++ zs)) (off + 0) vs).toArray = _
  rw [Nat.add_zero, ← h3, putL_mid _ _ _ _ (by omega)]
theorem fill_end (place : Nat → Option (Nat × Nat)) (cs : Array Value) : Instr.fill place cs [] = some cs := rfl
theorem run_build_val {P : Program} {a : Act} {w : World} (t : TypeId) (parts : Array (Nat × Operand)) (vals : List (Nat × Value)) (cs : Array Value)
    (hp : (parts.map fun (i, x) => (i, a.eval x)) = vals.toArray) (hb : P.built t vals = some cs) : (Instr.build t (parts.map fun (i, x) => (i, a.eval x))).run P w = .ok (.agg cs) w := by
  rw [hp]
  exact run_build w t vals.toArray cs (by simpa using hb)
theorem wpList_build_val {P : Program} {ops : Array Oper} {rest : List Oper} {o : Oper} {a : Act} {w : World} {Q : Exit → Act → World → Prop} (hg : o.guard = none) (t : TypeId) (parts : Array (Nat × Operand)) (ho : o.op = .build t parts)
    (vals : List (Nat × Value)) (cs : Array Value) (hp : (parts.map fun (i, x) => (i, a.eval x)) = vals.toArray) (hb : P.built t vals = some cs) (hk : wpList P ops Q rest (a.put o.dst (.agg cs)) w) : wpList P ops Q (o :: rest) a w := by
  refine wpList_plain hg fun K hK => ?_
  unfold Oper.wp execOp
  simp only [ho, Sem.run_bind, run_build_val t parts vals cs hp hb, Result.andThen_ok]
  exact hK _ _ hk
theorem wpList_build_want {P : Program} {ops : Array Oper} {rest : List Oper} {o : Oper} {a : Act} {w : World} {Q : Exit → Act → World → Prop} (hw : Region.wanted o (yielded ops a.tmps) = true) (t : TypeId) (parts : Array (Nat × Operand)) (ho : o.op = .build t parts)
    (vals : List (Nat × Value)) (cs : Array Value) (hp : (parts.map fun (i, x) => (i, a.eval x)) = vals.toArray) (hb : P.built t vals = some cs) (hk : wpList P ops Q rest (a.put o.dst (.agg cs)) w) : wpList P ops Q (o :: rest) a w := by
  refine BigFrame.wpList_want hw fun K hK => ?_
  unfold Oper.wp execOp
  simp only [ho, Sem.run_bind, run_build_val t parts vals cs hp hb, Result.andThen_ok]
  exact hK _ _ hk
theorem wpList_load_cells_want {P : Program} {w : World} {ops : Array Oper} {rest : List Oper} {o : Oper} {a : Act} {Q : Exit → Act → World → Prop} (hw : Region.wanted o (yielded ops a.tmps) = true) (ty : TypeId) (x : Operand) (ho : o.op = .load ty x)
    (g : Nat) (cs : Array Value) (t : TypeId) (d : TypeDesc) (hx : a.eval x = .pointer (some ⟨g, 0, none⟩)) (hg : Cells g t cs w)
    (hu : P.underlying ty = some d) (hd : (match d with | .struct _ | .array _ _ => true | _ => false) = true) (hi : (P.info? ty).map (·.size) = some cs.size)
    (h : wpList P ops Q rest (a.put o.dst (.agg cs)) w) : wpList P ops Q (o :: rest) a w :=
  BigFrame.wpList_want hw fun _ hK => wp_load_row ty x ho g hx t _ _ d hg hu hd hi (hK _ _ h)
theorem quiet_load_row {P : Program} {o : Oper} {a : Act} {C : World → Prop} {K : Act → Prop} (ty : TypeId) (x : Operand) (ho : o.op = .load ty x) (b off : Nat) (cs : List Value) (d : TypeDesc)
    (hx : a.eval x = .pointer (some ⟨b, off, none⟩)) (hC : ∀ w, C w → w.rangeAt b off cs) (hu : P.underlying ty = some d) (hd : d.isRow = true) (hi : (P.info? ty).map (·.size) = some cs.length)
    (hk : K (a.put o.dst (.agg cs.toArray))) : o.quiet P a C K := by
  refine ⟨_, fun w hw => ?_, hk⟩
  unfold Oper.quietAt execOp
  simp only [ho, hx, Instr.loadAt, Instr.sureAddr, Sem.run_bind, Sem.run_pure, Result.andThen_ok, run_loadVar_mid w b off ty _ d (hC w hw) hu hd hi]
  exact ⟨rfl, rfl⟩
theorem quiet_bin {P : Program} {o : Oper} {a : Act} {C : World → Prop} {K : Act → Prop} (op : BinOp) (t u : TypeId) (x y : Operand) (ho : o.op = .binOp op t x y u) (vx vy r : Value) (hx : a.eval x = vx) (hy : a.eval y = vy)
    (hg : ∀ w, (eqGuard op t x y vx vy).run P w = .ok () w) (hr : ∀ w, (binOp op t vx vy).run P w = .ok r w) (hk : K (a.put o.dst r)) : o.quiet P a C K := by
  refine ⟨_, fun w hw => ?_, hk⟩
  unfold Oper.quietAt execOp
  simp only [ho, hx, hy, Sem.run_bind, Sem.run_pure, hg, hr, Result.andThen_ok]
  exact ⟨rfl, rfl⟩
theorem part_row {P : Program} {w : World} {t : TypeId} {xs vs : Array Value} {off n : Nat} (h1 : (isAgg t).run P w = .ok true w) (h2 : (sizeOf t).run P w = .ok n w) (h3 : xs.extract off (off + n) = vs) : (Go.part t xs off).run P w = .ok (.agg vs) w := by
  simp only [Go.part, Sem.run_bind, h1, h2, Result.andThen_ok, if_true, h3, Sem.run_pure]
theorem part_cell {P : Program} {w : World} {t : TypeId} {xs : Array Value} {off : Nat} {v : Value} (h1 : (isAgg t).run P w = .ok false w) (h3 : xs[off]? = some v) : (Go.part t xs off).run P w = .ok v w := by
  simp only [Go.part, Sem.run_bind, h1, Result.andThen_ok, Bool.false_eq_true, if_false, h3, Sem.run_pure]
theorem eqFields_cons {P : Program} {w : World} {d : Nat} {xs ys : Array Value} {f : Field} {fs : List Field} {nm : String} {t : TypeId} {off : Nat} {a b : Value} {r s : Bool} (hf : (f.name, f.type, f.offset) = (nm, t, off)) (hn : nm ≠ "_")
    (ha : (Go.part t xs off).run P w = .ok a w) (hb : (Go.part t ys off).run P w = .ok b w) (hr : (Op.equalIn d t a b).run P w = .ok r w) (hs : (Op.eqFields d xs ys fs).run P w = .ok s w) : (Op.eqFields d xs ys (f :: fs)).run P w = .ok (r && s) w := by
  simp only [Prod.mk.injEq] at hf
  obtain ⟨rfl, rfl, rfl⟩ := hf
  rw [Op.eqFields, if_pos hn]
  simp only [Sem.run_bind, ha, hb, hr, Result.andThen_ok]
  cases r with
  | false => simp
  | true => simpa using hs
theorem eqFields_nil {P : Program} {w : World} {d : Nat} {xs ys : Array Value} : (Op.eqFields d xs ys []).run P w = .ok true w := by
  rw [Op.eqFields, Sem.run_pure]
theorem run_equal_text {P : Program} {w : World} (d : Nat) (t : TypeId) (a b : List UInt8) (h : P.underlying t = some .string) : (Op.equalIn (d + 1) t (.string ⟨a.toArray⟩) (.string ⟨b.toArray⟩)).run P w = .ok (a == b) w := by
  rw [run_equalIn_string w d t _ _ h, ByteArray.toList_eq, ByteArray.toList_eq]
theorem fields4 {l : List Field} {a b c d : String × TypeId × Nat} (h : l.map (fun f => (f.name, f.type, f.offset)) = [a, b, c, d]) : ∃ f0 f1 f2 f3, l = [f0, f1, f2, f3] ∧ (f0.name, f0.type, f0.offset) = a ∧ (f1.name, f1.type, f1.offset) = b ∧ (f2.name, f2.type, f2.offset) = c ∧ (f3.name, f3.type, f3.offset) = d := by
  match l, h with
  | [f0, f1, f2, f3], h =>
    simp only [List.map_cons, List.map_nil, List.cons.injEq, and_true] at h
    exact ⟨f0, f1, f2, f3, rfl, h.1, h.2.1, h.2.2.1, h.2.2.2⟩
  | [], h => simp at h
  | [_], h => simp at h
  | [_, _], h => simp at h
  | [_, _, _], h => simp at h
  | _ :: _ :: _ :: _ :: _ :: _, h => simp at h
end Go.Proofs.Ytenmkfjgjemiiaa
namespace Go.Proofs.Ytenmkfjgjemiiaa
open Go.RowKit Go.BigFrame
theorem Try.sizeD : (Try.prog.info? 28).map (·.size) = some 35 := by kernel_rfl
def zeroD : DraftN := ⟨0, [], [], zeroI⟩
def placeD : Nat → Option (Nat × Nat) := fun i => (#[(0, 1), (1, 1), (2, 1), (3, 32)] : Array (Nat × Nat))[i]?
theorem draft_fill (parts : List (Nat × Value)) : Try.prog.built 28 parts = Instr.fill placeD (draftV zeroD) parts := by kernel_rfl
theorem built_draft0 : Try.prog.built 28 [] = some (draftV zeroD) := by rw [draft_fill]; rfl
theorem draftV_size {d : DraftN} (h : d.ref.length = 32) : (draftV d).size = 35 := draftL_len h
end Go.Proofs.Ytenmkfjgjemiiaa
namespace Go.Proofs.Ytenmkfjgjemiiaa
open Go.RowKit Go.BigFrame
theorem draft_fields : (Try.prog.fieldsOf 28).toList.map (fun f => (f.name, f.type, f.offset)) = [("Kind", 3, 0), ("Key", 9, 1), ("Value", 9, 2), ("Ref", 26, 3)] := by kernel_rfl
theorem draft_part (d : DraftN) (hd : d.ref.length = 32) (w : World) : (Go.part 3 (draftV d) 0).run Try.prog w = .ok (.int .i64 d.kind) w ∧ (Go.part 9 (draftV d) 1).run Try.prog w = .ok (.string ⟨d.key.toArray⟩) w ∧
    (Go.part 9 (draftV d) 2).run Try.prog w = .ok (.string ⟨d.val.toArray⟩) w ∧ (Go.part 26 (draftV d) 3).run Try.prog w = .ok (.agg (nums .u8 d.ref).toArray) w := by
  refine ⟨part_cell (by kernel_rfl) rfl, part_cell (by kernel_rfl) rfl, part_cell (by kernel_rfl) rfl, part_row (n := 32) (by kernel_rfl) (by kernel_rfl) ?_⟩
  apply Array.ext'
  rw [draftV, draftL, List.extract_toArray, List.toList_toArray, List.extract_eq_take_drop]
  simp only [List.drop_succ_cons, List.drop_zero]
  rw [List.take_of_length_le (by rw [nums_len, hd]; decide)]
def eqDB (a b : DraftN) : Bool := (a.kind == b.kind) && ((a.key == b.key) && ((a.val == b.val) && ((a.ref == b.ref) && true)))
theorem eqDB_eq (a b : DraftN) : eqDB a b = decide (a = b) := by
  obtain ⟨a1, a2, a3, a4⟩ := a
  obtain ⟨b1, b2, b3, b4⟩ := b
  simp only [eqDB, DraftN.mk.injEq]
  rw [Bool.eq_iff_iff]
  simp
theorem equal_draft (a b : DraftN) (ha : IdOk a.ref) (hb : IdOk b.ref) (w : World) :
    (Op.equalIn 10000 28 (.agg (draftV a)) (.agg (draftV b))).run Try.prog w = .ok (decide (a = b)) w := by
  have hs := run_equalIn_struct (P := Try.prog) w 9999 28 (draftV a) (draftV b) (by kernel_rfl) (by kernel_rfl)
  rw [show 9999 + 1 = 10000 from rfl] at hs
  rw [hs]
  obtain ⟨f0, f1, f2, f3, hf, h0, h1, h2, h3⟩ := fields4 draft_fields
  rw [hf]
  obtain ⟨p0, p1, p2, p3⟩ := draft_part a ha.1 w
  obtain ⟨q0, q1, q2, q3⟩ := draft_part b hb.1 w
  have e0 := run_equalIn_int (P := Try.prog) w 9998 3 .i64 .i64 a.kind b.kind Try.underlying3
  have e1 := run_equal_text (P := Try.prog) (w := w) 9998 9 a.key b.key Try.underlying9
  have e2 := run_equal_text (P := Try.prog) (w := w) 9998 9 a.val b.val Try.underlying9
  have e3 : (Op.equalIn 9999 26 (.agg (nums .u8 a.ref).toArray) (.agg (nums .u8 b.ref).toArray)).run Try.prog w = .ok (a.ref == b.ref) w := by
    rw [cells_txt ha.2, cells_txt hb.2, run_equalIn_bytes w 9997 26 5 32 Try.underlying26 Try.underlying5 Try.sizeOf5 (txt a.ref) (txt b.ref) (by rw [txt_len, ha.1]) (by rw [txt_len, hb.1]), txt_beq ha.2 hb.2]
  have h := eqFields_cons h0 (by decide) p0 q0 e0 (eqFields_cons h1 (by decide) p1 q1 e1 (eqFields_cons h2 (by decide) p2 q2 e2 (eqFields_cons h3 (by decide) p3 q3 e3 eqFields_nil)))
  rw [h, ← eqDB_eq]
  rfl
theorem eql_draft (a b : DraftN) (ha : IdOk a.ref) (hb : IdOk b.ref) (w : World) : (binOp .eql 28 (.agg (draftV a)) (.agg (draftV b))).run Try.prog w = .ok (.bool (decide (a = b))) w := by
  rw [run_eql_struct, equal_draft a b ha hb]
  rfl
theorem guard_draft (x y : Operand) (u v : Array Value) (w : World) : (eqGuard .eql 28 x y (.agg u) (.agg v)).run Try.prog w = .ok () w := run_eqGuard_agg w .eql 28 x y u v (by kernel_rfl)
end Go.Proofs.Ytenmkfjgjemiiaa
namespace Go.Proofs.Ytenmkfjgjemiiaa
open Go.RowKit
section
variable {P : Program} {o : Oper} {a : Act} {w : World} {K : Act → World → Prop} {Q : Exit → Act → World → Prop}
theorem run_alloc_of (ty : TypeId) (z : List Value) (hz : (P.info? ty).bind (·.zero) = some (.agg z.toArray)) (w : World) : (Instr.alloc ty true (.tuple #[])).run P w = .ok (.pointer (some ⟨w.heap.size, 0, none⟩)) (w.alloc (.cells z.toArray ty)) := by
  obtain ⟨i, hi, hzz⟩ := Option.bind_eq_some_iff.1 hz
  simp [Instr.alloc, zeroValue, typeInfo, hi, hzz, go_sem]
theorem wpList_alloc_of {ops : Array Oper} {rest : List Oper} (hgd : o.guard = none) (ty : TypeId) (ho : o.op = .alloc ty) (z : List Value) (hz : (P.info? ty).bind (·.zero) = some (.agg z.toArray))
    (h : wpList P ops Q rest (a.put o.dst (.pointer (some ⟨w.heap.size, 0, none⟩))) (w.alloc (.cells z.toArray ty))) : wpList P ops Q (o :: rest) a w :=
  wpList_plain hgd fun _ hK => (op_alloc ty ho z.toArray (run_alloc_of ty z hz) (hK _ _ h)).out
end
end Go.Proofs.Ytenmkfjgjemiiaa
namespace Go.Proofs.Ytenmkfjgjemiiaa
open Go.RowKit Go.BigFrame
def entT (e : EntN) : List Value := [.int .i64 e.mask, .string ⟨e.pay.toArray⟩, .string ⟨e.sig.toArray⟩]
def entL (e : EntN) : List Value := [.int .i64 e.kind] ++ (draftL e.d ++ ([.int .i64 e.src, .int .i64 e.seq] ++ (nums .u8 e.prev ++ entT e)))
def entV (e : EntN) : Array Value := (entL e).toArray
theorem entL_len {e : EntN} (h : e.Ok) : (entL e).length = 73 := by
  simp only [entL, entT, List.length_append, draftL_len h.ref.1, nums_len, h.prev.1, List.length_cons, List.length_nil]
theorem entL_one (e : EntN) : ∀ u ∈ entL e, u.oneCell' = true := fun u hu => by
  simp only [entL, entT, List.mem_append, List.mem_cons, List.not_mem_nil, or_false] at hu
  rcases hu with rfl | hu | (rfl | rfl) | hu | (rfl | rfl | rfl)
  · rfl
  · exact draftL_one _ u hu
  · rfl
  · rfl
  · exact nums_one _ _ u hu
  · rfl
  · rfl
  · rfl
theorem entV_all (e : EntN) : (entV e).all (·.oneCell') = true := by
  rw [entV, List.all_toArray]
  exact List.all_eq_true.2 (entL_one e)
theorem entV_size {e : EntN} (h : e.Ok) : (entV e).size = 73 := entL_len h
theorem Try.sizeE : (Try.prog.info? 30).map (·.size) = some 73 := by kernel_rfl
theorem sizeEV {e : EntN} (h : e.Ok) : (Try.prog.info? 30).map (·.size) = some (entV e).size := by rw [entV_size h]; exact Try.sizeE
theorem rangeAt_app {b o : Nat} {L M : List Value} {w : World} (h : w.rangeAt b o (L ++ M)) : w.rangeAt b o L ∧ w.rangeAt b (o + L.length) M := by
  refine ⟨fun j v hj => h j v ?_, fun j v hj => ?_⟩
  · have hl := (List.getElem?_eq_some_iff.1 hj).1
    rw [List.getElem?_append_left hl]
    exact hj
  · have h1 := h (L.length + j) v (by rw [List.getElem?_append_right (by omega), Nat.add_sub_cancel_left]; exact hj)
    rw [← Nat.add_assoc] at h1
    exact h1
structure EntAt (b o : Nat) (e : EntN) (w : World) : Prop where
  kind : w.cell? ⟨b, o, none⟩ = some (.int .i64 e.kind)
  draft : w.rangeAt b (o + 1) (draftL e.d)
  src : w.cell? ⟨b, o + 36, none⟩ = some (.int .i64 e.src)
  seq : w.cell? ⟨b, o + 37, none⟩ = some (.int .i64 e.seq)
  prev : w.rangeAt b (o + 38) (nums .u8 e.prev)
  mask : w.cell? ⟨b, o + 70, none⟩ = some (.int .i64 e.mask)
  pay : w.cell? ⟨b, o + 71, none⟩ = some (.string ⟨e.pay.toArray⟩)
  sig : w.cell? ⟨b, o + 72, none⟩ = some (.string ⟨e.sig.toArray⟩)
theorem ent_at {b o : Nat} {e : EntN} {w : World} (hok : e.Ok) (h : w.rangeAt b o (entL e)) : EntAt b o e w := by
  have hd := draftL_len hok.ref.1
  have hp := hok.prev.1
  obtain ⟨h0, h⟩ := rangeAt_app h
  obtain ⟨h1, h⟩ := rangeAt_app h
  obtain ⟨h2, h⟩ := rangeAt_app h
  obtain ⟨h3, h⟩ := rangeAt_app h
  simp only [List.length_cons, List.length_nil, hd, nums_len, hp, Nat.zero_add, Nat.reduceAdd, Nat.add_assoc] at h1 h2 h3 h
  exact ⟨h0 0 _ rfl, h1, h2 0 _ rfl, h2 1 _ rfl, h3, h 0 _ rfl, h 1 _ rfl, h 2 _ rfl⟩
theorem ent_range {g : Nat} {t : TypeId} {e : EntN} {w : World} (h : Cells g t (entV e) w) : w.rangeAt g 0 (entL e) := fun j v hj => by
  rw [Nat.zero_add, h.at, entV, List.getElem?_toArray]
  exact hj
theorem ent_cells {g : Nat} {t : TypeId} {e : EntN} {w : World} (hok : e.Ok) (h : Cells g t (entV e) w) :
    w.cell? ⟨g, 0, none⟩ = some (.int .i64 e.kind) ∧ w.rangeAt g 1 (draftL e.d) ∧ w.cell? ⟨g, 36, none⟩ = some (.int .i64 e.src) ∧ w.cell? ⟨g, 37, none⟩ = some (.int .i64 e.seq) ∧ w.rangeAt g 38 (nums .u8 e.prev) ∧
    w.cell? ⟨g, 70, none⟩ = some (.int .i64 e.mask) ∧ w.cell? ⟨g, 71, none⟩ = some (.string ⟨e.pay.toArray⟩) ∧ w.cell? ⟨g, 72, none⟩ = some (.string ⟨e.sig.toArray⟩) := by
  have k := ent_at hok (ent_range h)
  have h1 := k.draft
  have h3 := k.src
  have h4 := k.seq
  have h5 := k.prev
  have h6 := k.mask
  have h7 := k.pay
  have h8 := k.sig
  simp only [Nat.zero_add] at h1 h3 h4 h5 h6 h7 h8
  exact ⟨k.kind, h1, h3, h4, h5, h6, h7, h8⟩
def placeE : Nat → Option (Nat × Nat) := fun i => (#[(0, 1), (1, 35), (36, 1), (37, 1), (38, 32), (70, 1), (71, 1), (72, 1)] : Array (Nat × Nat))[i]?
theorem ent_fill (parts : List (Nat × Value)) : Try.prog.built 30 parts = Instr.fill placeE (entV noE) parts := by kernel_rfl
theorem fill_ent (i off size : Nat) (v : Value) (rest : List (Nat × Value)) (a b : EntN) (xs ys zs vs : List Value) (hp : placeE i = some (off, size)) (ha : entL a = xs ++ (ys ++ zs)) (hb : entL b = xs ++ (vs ++ zs)) (hv : v.cells.toList = vs) (h1 : vs.length = size) (h2 : ys.length = size) (h3 : xs.length = off) :
    Instr.fill placeE (entV a) ((i, v) :: rest) = Instr.fill placeE (entV b) rest := by
  rw [entV, entV, ha, hb]
  exact fill_lay placeE i off size v rest xs ys zs vs hp hv h1 h2 h3
section
variable (a : EntN) (rest : List (Nat × Value))
theorem fill_kind (k : Int) : Instr.fill placeE (entV a) ((0, .int .i64 k) :: rest) = Instr.fill placeE (entV { a with kind := k }) rest :=
  fill_ent 0 0 1 _ rest a { a with kind := k } [] [.int .i64 a.kind] _ [.int .i64 k] rfl rfl rfl rfl rfl rfl rfl
theorem fill_draft (ha : a.Ok) (d : DraftN) (hd : IdOk d.ref) : Instr.fill placeE (entV a) ((1, .agg (draftV d)) :: rest) = Instr.fill placeE (entV { a with d := d }) rest :=
  fill_ent 1 1 35 _ rest a { a with d := d } [.int .i64 a.kind] (draftL a.d) _ (draftL d) rfl rfl rfl rfl (draftL_len hd.1) (draftL_len ha.ref.1) rfl
theorem fill_mask (ha : a.Ok) (k : Int) : Instr.fill placeE (entV a) ((5, .int .i64 k) :: rest) = Instr.fill placeE (entV { a with mask := k }) rest :=
  fill_ent 5 70 1 _ rest a { a with mask := k } ([.int .i64 a.kind] ++ (draftL a.d ++ ([.int .i64 a.src, .int .i64 a.seq] ++ nums .u8 a.prev))) [.int .i64 a.mask] [.string ⟨a.pay.toArray⟩, .string ⟨a.sig.toArray⟩] [.int .i64 k] rfl (by simp [entL, entT]) (by simp [entL, entT]) rfl rfl rfl (by simp [draftL_len ha.ref.1, nums_len, ha.prev.1])
theorem fill_pay (ha : a.Ok) (s : List UInt8) : Instr.fill placeE (entV a) ((6, .string ⟨s.toArray⟩) :: rest) = Instr.fill placeE (entV { a with pay := s }) rest :=
  fill_ent 6 71 1 _ rest a { a with pay := s } ([.int .i64 a.kind] ++ (draftL a.d ++ ([.int .i64 a.src, .int .i64 a.seq] ++ (nums .u8 a.prev ++ [.int .i64 a.mask])))) [.string ⟨a.pay.toArray⟩] [.string ⟨a.sig.toArray⟩] [.string ⟨s.toArray⟩] rfl (by simp [entL, entT]) (by simp [entL, entT]) rfl rfl rfl (by simp [draftL_len ha.ref.1, nums_len, ha.prev.1])
end
def outE (m : Int) (p : List UInt8) : EntN := ⟨3, noD, 0, 0, zeroI, m, p, []⟩
theorem outE_ok (m : Int) (p : List UInt8) : (outE m p).Ok := ⟨zeroI_ok, zeroI_ok⟩
theorem built_out (m : Int) (p : List UInt8) : Try.prog.built 30 [(0, .int .i64 3), (5, .int .i64 m), (6, .string ⟨p.toArray⟩)] = some (entV (outE m p)) := by
  rw [ent_fill, fill_kind, fill_mask _ _ ⟨zeroI_ok, zeroI_ok⟩, fill_pay _ _ ⟨zeroI_ok, zeroI_ok⟩, fill_end]
  rfl
theorem ent_fields : (Try.prog.fieldsOf 30).toList.map (fun f => (f.name, f.type, f.offset)) = [("Kind", 3, 0), ("Draft", 28, 1), ("From", 3, 36), ("Seq", 3, 37), ("Prev", 26, 38), ("Mask", 3, 70), ("Payload", 9, 71), ("Sig", 9, 72)] := by kernel_rfl
theorem fields8 {l : List Field} {a b c d e f g h : String × TypeId × Nat} (hl : l.map (fun f => (f.name, f.type, f.offset)) = [a, b, c, d, e, f, g, h]) : ∃ f0 f1 f2 f3 f4 f5 f6 f7, l = [f0, f1, f2, f3, f4, f5, f6, f7] ∧ (f0.name, f0.type, f0.offset) = a ∧ (f1.name, f1.type, f1.offset) = b ∧ (f2.name, f2.type, f2.offset) = c ∧ (f3.name, f3.type, f3.offset) = d ∧ (f4.name, f4.type, f4.offset) = e ∧ (f5.name, f5.type, f5.offset) = f ∧ (f6.name, f6.type, f6.offset) = g ∧ (f7.name, f7.type, f7.offset) = h := by
  have hn := congrArg List.length hl
  rw [List.length_map] at hn
  simp only [List.length_cons, List.length_nil] at hn
  match l, hn with
  | [f0, f1, f2, f3, f4, f5, f6, f7], _ =>
    simp only [List.map_cons, List.map_nil, List.cons.injEq, and_true] at hl
    exact ⟨f0, f1, f2, f3, f4, f5, f6, f7, rfl, hl⟩
theorem ext_mid (xs ys zs : List Value) (n m : Nat) (h1 : xs.length = n) (h2 : ys.length = m) : (xs ++ (ys ++ zs)).toArray.extract n (n + m) = ys.toArray := by
  apply Array.ext'
  rw [List.extract_toArray, List.toList_toArray, List.extract_eq_take_drop, ← h1, List.drop_left, ← h2, Nat.add_sub_cancel_left, List.take_left]
theorem get_mid (xs : List Value) (y : Value) (zs : List Value) (n : Nat) (h1 : xs.length = n) : (xs ++ (y :: zs)).toArray[n]? = some y := by
  rw [List.getElem?_toArray, List.getElem?_append_right (by omega), h1, Nat.sub_self]
  rfl
theorem ent_part (e : EntN) (he : e.Ok) (w : World) : (Go.part 3 (entV e) 0).run Try.prog w = .ok (.int .i64 e.kind) w ∧ (Go.part 28 (entV e) 1).run Try.prog w = .ok (.agg (draftV e.d)) w ∧
    (Go.part 3 (entV e) 36).run Try.prog w = .ok (.int .i64 e.src) w ∧ (Go.part 3 (entV e) 37).run Try.prog w = .ok (.int .i64 e.seq) w ∧ (Go.part 26 (entV e) 38).run Try.prog w = .ok (.agg (nums .u8 e.prev).toArray) w ∧
    (Go.part 3 (entV e) 70).run Try.prog w = .ok (.int .i64 e.mask) w ∧ (Go.part 9 (entV e) 71).run Try.prog w = .ok (.string ⟨e.pay.toArray⟩) w ∧ (Go.part 9 (entV e) 72).run Try.prog w = .ok (.string ⟨e.sig.toArray⟩) w := by
  have hd := draftL_len he.ref.1
  have hp := he.prev.1
  refine ⟨part_cell (by kernel_rfl) rfl, part_row (n := 35) (by kernel_rfl) (by kernel_rfl) (ext_mid [.int .i64 e.kind] (draftL e.d) _ 1 35 rfl hd), part_cell (by kernel_rfl) ?_, part_cell (by kernel_rfl) ?_, part_row (n := 32) (by kernel_rfl) (by kernel_rfl) ?_, part_cell (by kernel_rfl) ?_, part_cell (by kernel_rfl) ?_, part_cell (by kernel_rfl) ?_⟩
  · have h := get_mid ([.int .i64 e.kind] ++ draftL e.d) (.int .i64 e.src) ([.int .i64 e.seq] ++ (nums .u8 e.prev ++ entT e)) 36 (by simp [hd])
    rw [← h]
    simp [entV, entL]
  · have h := get_mid ([.int .i64 e.kind] ++ (draftL e.d ++ [.int .i64 e.src])) (.int .i64 e.seq) (nums .u8 e.prev ++ entT e) 37 (by simp [hd])
    rw [← h]
    simp [entV, entL]
  · have h := ext_mid ([.int .i64 e.kind] ++ (draftL e.d ++ [.int .i64 e.src, .int .i64 e.seq])) (nums .u8 e.prev) (entT e) 38 32 (by simp [hd]) (by rw [nums_len, hp])
    rw [← h]
    simp [entV, entL]
  · have h := get_mid ([.int .i64 e.kind] ++ (draftL e.d ++ ([.int .i64 e.src, .int .i64 e.seq] ++ nums .u8 e.prev))) (.int .i64 e.mask) [.string ⟨e.pay.toArray⟩, .string ⟨e.sig.toArray⟩] 70 (by simp [hd, nums_len, hp])
    rw [← h]
    simp [entV, entL, entT]
  · have h := get_mid ([.int .i64 e.kind] ++ (draftL e.d ++ ([.int .i64 e.src, .int .i64 e.seq] ++ (nums .u8 e.prev ++ [.int .i64 e.mask])))) (.string ⟨e.pay.toArray⟩) [.string ⟨e.sig.toArray⟩] 71 (by simp [hd, nums_len, hp])
    rw [← h]
    simp [entV, entL, entT]
  · have h := get_mid ([.int .i64 e.kind] ++ (draftL e.d ++ ([.int .i64 e.src, .int .i64 e.seq] ++ (nums .u8 e.prev ++ [.int .i64 e.mask, .string ⟨e.pay.toArray⟩])))) (.string ⟨e.sig.toArray⟩) [] 72 (by simp [hd, nums_len, hp])
    rw [← h]
    simp [entV, entL, entT]
theorem equal_draft_at (k : Nat) (a b : DraftN) (ha : IdOk a.ref) (hb : IdOk b.ref) (w : World) :
    (Op.equalIn (k + 3) 28 (.agg (draftV a)) (.agg (draftV b))).run Try.prog w = .ok (decide (a = b)) w := by
  have hs := run_equalIn_struct (P := Try.prog) w (k + 2) 28 (draftV a) (draftV b) (by kernel_rfl) (by kernel_rfl)
  rw [show k + 2 + 1 = k + 3 from rfl] at hs
  rw [hs]
  obtain ⟨f0, f1, f2, f3, hf, h0, h1, h2, h3⟩ := fields4 draft_fields
  rw [hf]
  obtain ⟨p0, p1, p2, p3⟩ := draft_part a ha.1 w
  obtain ⟨q0, q1, q2, q3⟩ := draft_part b hb.1 w
  have e0 := run_equalIn_int (P := Try.prog) w (k + 1) 3 .i64 .i64 a.kind b.kind Try.underlying3
  have e1 := run_equal_text (P := Try.prog) (w := w) (k + 1) 9 a.key b.key Try.underlying9
  have e2 := run_equal_text (P := Try.prog) (w := w) (k + 1) 9 a.val b.val Try.underlying9
  have e3 : (Op.equalIn (k + 2) 26 (.agg (nums .u8 a.ref).toArray) (.agg (nums .u8 b.ref).toArray)).run Try.prog w = .ok (a.ref == b.ref) w := by
    rw [cells_txt ha.2, cells_txt hb.2, run_equalIn_bytes w k 26 5 32 Try.underlying26 Try.underlying5 Try.sizeOf5 (txt a.ref) (txt b.ref) (by rw [txt_len, ha.1]) (by rw [txt_len, hb.1]), txt_beq ha.2 hb.2]
  have h := eqFields_cons h0 (by decide) p0 q0 e0 (eqFields_cons h1 (by decide) p1 q1 e1 (eqFields_cons h2 (by decide) p2 q2 e2 (eqFields_cons h3 (by decide) p3 q3 e3 eqFields_nil)))
  rw [h, ← eqDB_eq]
  rfl
def eqEB (a b : EntN) : Bool := (a.kind == b.kind) && (decide (a.d = b.d) && ((a.src == b.src) && ((a.seq == b.seq) && ((a.prev == b.prev) && ((a.mask == b.mask) && ((a.pay == b.pay) && ((a.sig == b.sig) && true)))))))
theorem eqEB_eq (a b : EntN) : eqEB a b = decide (a = b) := by
  obtain ⟨a1, a2, a3, a4, a5, a6, a7, a8⟩ := a
  obtain ⟨b1, b2, b3, b4, b5, b6, b7, b8⟩ := b
  simp only [eqEB, EntN.mk.injEq]
  rw [Bool.eq_iff_iff]
  simp
theorem equal_ent (a b : EntN) (ha : a.Ok) (hb : b.Ok) (w : World) :
    (Op.equalIn 10000 30 (.agg (entV a)) (.agg (entV b))).run Try.prog w = .ok (decide (a = b)) w := by
  have hs := run_equalIn_struct (P := Try.prog) w 9999 30 (entV a) (entV b) (by kernel_rfl) (by kernel_rfl)
  rw [show 9999 + 1 = 10000 from rfl] at hs
  rw [hs]
  obtain ⟨f0, f1, f2, f3, f4, f5, f6, f7, hf, h0, h1, h2, h3, h4, h5, h6, h7⟩ := fields8 ent_fields
  rw [hf]
  obtain ⟨p0, p1, p2, p3, p4, p5, p6, p7⟩ := ent_part a ha w
  obtain ⟨q0, q1, q2, q3, q4, q5, q6, q7⟩ := ent_part b hb w
  have e0 := run_equalIn_int (P := Try.prog) w 9998 3 .i64 .i64 a.kind b.kind Try.underlying3
  have e1 := equal_draft_at 9996 a.d b.d ha.ref hb.ref w
  have e2 := run_equalIn_int (P := Try.prog) w 9998 3 .i64 .i64 a.src b.src Try.underlying3
  have e3 := run_equalIn_int (P := Try.prog) w 9998 3 .i64 .i64 a.seq b.seq Try.underlying3
  have e4 : (Op.equalIn 9999 26 (.agg (nums .u8 a.prev).toArray) (.agg (nums .u8 b.prev).toArray)).run Try.prog w = .ok (a.prev == b.prev) w := by
    rw [cells_txt ha.prev.2, cells_txt hb.prev.2, run_equalIn_bytes w 9997 26 5 32 Try.underlying26 Try.underlying5 Try.sizeOf5 (txt a.prev) (txt b.prev) (by rw [txt_len, ha.prev.1]) (by rw [txt_len, hb.prev.1]), txt_beq ha.prev.2 hb.prev.2]
  have e5 := run_equalIn_int (P := Try.prog) w 9998 3 .i64 .i64 a.mask b.mask Try.underlying3
  have e6 := run_equal_text (P := Try.prog) (w := w) 9998 9 a.pay b.pay Try.underlying9
  have e7 := run_equal_text (P := Try.prog) (w := w) 9998 9 a.sig b.sig Try.underlying9
  have h := eqFields_cons h0 (by decide) p0 q0 e0 (eqFields_cons h1 (by decide) p1 q1 e1 (eqFields_cons h2 (by decide) p2 q2 e2 (eqFields_cons h3 (by decide) p3 q3 e3 (eqFields_cons h4 (by decide) p4 q4 e4 (eqFields_cons h5 (by decide) p5 q5 e5 (eqFields_cons h6 (by decide) p6 q6 e6 (eqFields_cons h7 (by decide) p7 q7 e7 eqFields_nil)))))))
  rw [h, ← eqEB_eq]
  rfl
theorem eql_ent (a b : EntN) (ha : a.Ok) (hb : b.Ok) (w : World) : (binOp .eql 30 (.agg (entV a)) (.agg (entV b))).run Try.prog w = .ok (.bool (decide (a = b))) w := by
  rw [run_eql_struct, equal_ent a b ha hb]
  rfl
theorem guard_ent (op : BinOp) (hop : op = .eql ∨ op = .neq) (x y : Operand) (u v : Array Value) (w : World) : (eqGuard op 30 x y (.agg u) (.agg v)).run Try.prog w = .ok () w := by
  rcases hop with rfl | rfl
  · exact run_eqGuard_agg w .eql 30 x y u v (by kernel_rfl)
  · exact run_eqGuard_agg w .neq 30 x y u v (by kernel_rfl)
section
variable (a : EntN) (ha : a.Ok)
include ha
omit ha in
end
structure EntN.Len (e : EntN) : Prop where
  ok : e.Ok
  key : e.d.key.length ≤ 140737488351232
  val : e.d.val.length ≤ 140737488351232
  pay : e.pay.length ≤ 140737488351232
  sig : e.sig.length ≤ 140737488351232
end Go.Proofs.Ytenmkfjgjemiiaa
namespace Go.Proofs.Ytenmkfjgjemiiaa
open Go.RowKit Go.BigFrame
def fitsK (d : DraftN) : Bool := if d.kind = 1 ∨ d.kind = 2 ∨ d.kind = 3 then (d.ref == zeroI) else if d.kind = 4 then true else if d.kind = 5 then !(d.ref == zeroI) && d.val == [] else false
theorem good_fits (d : DraftN) : GoodD d ↔ 1 ≤ d.key.length ∧ d.key.length ≤ 16 ∧ d.val.length ≤ 64 ∧ fitsK d = true := by
  unfold GoodD fitsK
  constructor
  · rintro ⟨h1, h2, h3, h4, h5, h6, h7⟩
    refine ⟨h3, h4, h5, ?_⟩
    split
    · rw [h6 (by omega)]; simp
    · split
      · rfl
      · split
        · obtain ⟨a, b⟩ := h7 (by omega)
          simp [a, b]
        · omega
  · rintro ⟨h3, h4, h5, h⟩
    split at h
    · exact ⟨by omega, by omega, h3, h4, h5, fun _ => by simpa using h, fun h => by omega⟩
    · split at h
      · exact ⟨by omega, by omega, h3, h4, h5, fun h => by omega, fun h => by omega⟩
      · split at h
        · simp at h
          exact ⟨by omega, by omega, h3, h4, h5, fun h => by omega, fun _ => h⟩
        · cases h
set_option maxHeartbeats 2000000 in
set_option maxRecDepth 100000 in
theorem dev_fitsKind (d : DraftN) (hr : IdOk d.ref) (w : World) :
    Calls Try.prog 40 #[.agg (draftV d)] w fun e w' => e = .returned (.bool (fitsK d)) ∧ Below w.heap.size w w' := by
  have hx : Cells w.heap.size 28 (draftV d) (w.alloc (.cells (draftV d) 28)) := heap_alloc_new w _
  have hb : Below w.heap.size w (w.alloc (.cells (draftV d) 28)) := (Below.refl _ _).alloc (Nat.le_refl _) _
  obtain ⟨c0, c1, c2, c3⟩ := draft_cells hx
  have HC3 := Lib.hid c3
  have HB := Lib.hid hb
  have heq := fun w' => equal_idI d.ref zeroI hr.1 zeroI_ok.1 hr.2 zeroI_ok.2 w'
  have HI := Lib.hid (show (Try.prog.info? 26).map (·.size) = some d.ref.length by rw [hr.1]; exact Try.sizeI)
  obtain ⟨k, hkd⟩ : ∃ k, d.kind = k := ⟨_, rfl⟩
  obtain ⟨z, hz2⟩ : ∃ z, (d.ref == zeroI) = z := ⟨_, rfl⟩
  have HG := Shut.mk (show fitsK d = if k = 1 ∨ k = 2 ∨ k = 3 then z else if k = 4 then true else if k = 5 then !z && d.val == [] else false by rw [fitsK, hkd, hz2])
  rw [hkd] at c0
  rw [hz2, zeroI_lit] at heq
  clear hx hb c3 hz2
  by_cases h1 : k = 1
  · subst h1
    have hgd : fitsK d = z := HG.out
    rw [hgd]
    clear hgd
    go_enter Try.func40, Try.ntmps40
    cases z <;> go_wp2_with (refine wpList_load_id rfl 26 _ rfl w.heap.size 3 d.ref _ rfl HC3.out Try.underlying26 rfl HI.out ?_)
    all_goals
      go_ret
      exact ⟨rfl, HB.out⟩
  by_cases h2 : k = 2
  · subst h2
    have hgd : fitsK d = z := HG.out
    rw [hgd]
    clear hgd
    go_enter Try.func40, Try.ntmps40
    cases z <;> go_wp2_with (refine wpList_load_id rfl 26 _ rfl w.heap.size 3 d.ref _ rfl HC3.out Try.underlying26 rfl HI.out ?_)
    all_goals
      go_ret
      exact ⟨rfl, HB.out⟩
  by_cases h3 : k = 3
  · subst h3
    have hgd : fitsK d = z := HG.out
    rw [hgd]
    clear hgd
    go_enter Try.func40, Try.ntmps40
    cases z <;> go_wp2_with (refine wpList_load_id rfl 26 _ rfl w.heap.size 3 d.ref _ rfl HC3.out Try.underlying26 rfl HI.out ?_)
    all_goals
      go_ret
      exact ⟨rfl, HB.out⟩
  by_cases h4 : k = 4
  · subst h4
    have hgd : fitsK d = true := HG.out
    rw [hgd]
    clear hgd
    go_enter Try.func40, Try.ntmps40
    cases z <;> go_wp2_with (refine wpList_load_id rfl 26 _ rfl w.heap.size 3 d.ref _ rfl HC3.out Try.underlying26 rfl HI.out ?_)
    all_goals
      go_ret
      exact ⟨rfl, HB.out⟩
  by_cases h5 : k = 5
  · subst h5
    have hgd : fitsK d = (!z && d.val == []) := HG.out
    rw [hgd]
    clear hgd
    go_enter Try.func40, Try.ntmps40
    cases z <;> go_wp2_with (refine wpList_load_id rfl 26 _ rfl w.heap.size 3 d.ref _ rfl HC3.out Try.underlying26 rfl HI.out ?_)
    all_goals
      go_ret
      exact ⟨rfl, HB.out⟩
  have t1 : (k == 1) = false := by simp [h1]
  have t2 : (k == 2) = false := by simp [h2]
  have t3 : (k == 3) = false := by simp [h3]
  have t4 : (k == 4) = false := by simp [h4]
  have t5 : (k == 5) = false := by simp [h5]
  have hgd : fitsK d = false := by rw [HG.out, if_neg (by omega), if_neg h4, if_neg h5]
  rw [hgd]
  clear hgd
  go_enter Try.func40, Try.ntmps40
  cases z <;> go_wp2_with (refine wpList_load_id rfl 26 _ rfl w.heap.size 3 d.ref _ rfl HC3.out Try.underlying26 rfl HI.out ?_)
  all_goals
    go_ret
    exact ⟨rfl, HB.out⟩
set_option maxHeartbeats 2000000 in
set_option maxRecDepth 100000 in
theorem dev_goodDraft (d : DraftN) (hr : IdOk d.ref) (hk : d.key.length ≤ 140737488351232) (hv : d.val.length ≤ 140737488351232) (w : World) :
    Calls Try.prog 24 #[.agg (draftV d)] w fun e w' => e = .returned (.bool (decide (GoodD d))) ∧ Below w.heap.size w w' := by
  have hx : Cells w.heap.size 28 (draftV d) (w.alloc (.cells (draftV d) 28)) := heap_alloc_new w _
  have hb : Below w.heap.size w (w.alloc (.cells (draftV d) 28)) := (Below.refl _ _).alloc (Nat.le_refl _) _
  obtain ⟨c0, c1, c2, c3⟩ := draft_cells hx
  have HX := Lib.hid hx
  have HB := Lib.hid hb
  have HSD := Lib.hid (show (Try.prog.info? 28).map (·.size) = some (draftV d).size by rw [draftV_size hr.1]; exact Try.sizeD)
  have HF := Lib.hid (fun w' => dev_fitsKind d hr w')
  obtain ⟨f, hf⟩ : ∃ f, fitsK d = f := ⟨_, rfl⟩
  obtain ⟨kl, hkl⟩ : ∃ n, d.key.length = n := ⟨_, rfl⟩
  obtain ⟨vl, hvl⟩ : ∃ n, d.val.length = n := ⟨_, rfl⟩
  have hke : (d.key == []) = decide (kl = 0) := by rw [val_nil_beq, ← hkl]; simp [List.length_eq_zero_iff]
  have HG := Shut.mk (show decide (GoodD d) = decide (1 ≤ kl ∧ kl ≤ 16 ∧ vl ≤ 64 ∧ f = true) from decide_eq_decide.2 (by rw [good_fits, hkl, hvl, hf]))
  rw [hf] at HF
  clear hx hb c0 c3 hf
  by_cases h1 : kl = 0
  · have e1 : (d.key == []) = true := by rw [hke]; exact decide_eq_true h1
    have HR := Shut.mk (HG.out.trans (decide_eq_false (by omega)))
    clear hke
    go_enter Try.func24, Try.ntmps24
    go_wp2_with fail
    go_ret
    exact ⟨by rw [HR.out]; rfl, HB.out⟩
  have e1 : (d.key == []) = false := by rw [hke]; exact decide_eq_false h1
  clear hke
  by_cases h2 : 16 < kl
  · have HR := Shut.mk (HG.out.trans (decide_eq_false (by omega)))
    have h2b : decide ((kl : Int) ≤ 16) = false := decide_eq_false (by omega)
    go_enter Try.func24, Try.ntmps24
    go_wp2_with fail
    go_ret
    exact ⟨by rw [HR.out]; rfl, HB.out⟩
  have h2b : decide ((kl : Int) ≤ 16) = true := decide_eq_true (by omega)
  by_cases h3 : 64 < vl
  · have HR := Shut.mk (HG.out.trans (decide_eq_false (by omega)))
    have h3b : decide ((vl : Int) ≤ 64) = false := decide_eq_false (by omega)
    go_enter Try.func24, Try.ntmps24
    go_wp2_with fail
    go_ret
    exact ⟨by rw [HR.out]; rfl, HB.out⟩
  have h3b : decide ((vl : Int) ≤ 64) = true := decide_eq_true (by omega)
  have HR := Shut.mk (show decide (GoodD d) = f by rw [HG.out]; cases f with | true => exact decide_eq_true ⟨by omega, by omega, by omega, rfl⟩ | false => exact decide_eq_false (fun h => by cases h.2.2.2))
  go_enter Try.func24, Try.ntmps24
  go_wp2_with (refine wpList_load_cells_want (by rfl) 28 _ rfl w.heap.size (draftV d) 28 _ rfl HX.out Try.underlying28 rfl HSD.out ?_)
  refine (HF.out _).mono ?_
  rintro e w1 ⟨rfl, hb⟩
  have HB1 := Lib.hid (HB.out.trans (hb.mono HB.out.size))
  clear hb
  go_wp2_with fail
  go_ret
  exact ⟨by rw [HR.out]; rfl, HB1.out⟩
end Go.Proofs.Ytenmkfjgjemiiaa
namespace Go.Proofs.Ytenmkfjgjemiiaa
open Go.RowKit Go.BigFrame
theorem wpList_bin {P : Program} {ops : Array Oper} {rest : List Oper} {o : Oper} {a : Act} {w : World} {Q : Exit → Act → World → Prop} (hg0 : o.guard = none) (op : BinOp) (t u : TypeId) (x y : Operand) (ho : o.op = .binOp op t x y u) (vx vy r : Value) (hx : a.eval x = vx) (hy : a.eval y = vy)
    (hg : ∀ w, (eqGuard op t x y vx vy).run P w = .ok () w) (hr : ∀ w, (binOp op t vx vy).run P w = .ok r w) (hk : wpList P ops Q rest (a.put o.dst r) w) : wpList P ops Q (o :: rest) a w :=
  wpList_plain hg0 fun _ hK => (op_bin op t u x y ho vx vy r hx hy hg hr (hK _ _ hk)).out
end Go.Proofs.Ytenmkfjgjemiiaa
