/-
  Joined: Rows of elements of thirty-two bytes: what lies there, what is pushed, stored and read; a slice of arrays that came in.; Objects that live in memory of their own: what a call turns (Only), what it owns behind it (Turn); rows of values of one cell (RowV).; Operations of a region whose order is open, one by one (for the steps of wp_region_free): fields, loads, conversions, literal slices of one value, values pushed.; Drafts and operations as values.; Structs built: a literal of any struct type by its layout (wpList_build_val, quiet_build_val, op_build_val: the value as an equation of P.built).; Drafts built.; Drafts compared.; Rows of blocks of K cells (arrays, structs), one behind the other: a block read, laid over, pushed; copy; a call of a function value.; Entries as values: where their fields lie, how they are built and compared.; What a law's arguments are: slices of texts, opened.; Rows of structs of K cells: that came in, that lie in a row of the call's own.; Rows of entries.; Drafts, names that came in.
-/
import Derived.ChangeOld
import Derived.Deep.MidRow
import Derived.Deep.Slices
import Derived.Great.BuildSlice
import Derived.Laws.BytesString
import Derived.Laws.DeepStrings4
import Derived.Laws.IdiomCopy
import Derived.Laws.StructEq
import Derived.OpenShut
import Derived.ProofKit
import Derived.ShutString
import Derived.SizedLaws
import Derived.SliceStrings
import Derived.Test.YtpfhlhcnmeodbaaGreatDoorRows
import Derived.Test.YtpfhlhcnmeodbaaGreatDoorJ01
import Derived.Test.YtpfhlhcnmeodbaaGreatDoorJ02
namespace Go.Proofs.YtpfhlhcnmeodbaaGreatDoor
open Go.RowKit Go.ChangeShapes Go.WideShapes
def Ids (L : List (List Nat)) : Prop := ∀ x ∈ L, x.length = 32 ∧ ∀ y ∈ x, y < 256
theorem Ids.getD {L : List (List Nat)} (h : Ids L) {i : Nat} (hi : i < L.length) : (L.getD i []).length = 32 ∧ ∀ y ∈ L.getD i [], y < 256 := by
  rw [List.getD_eq_getElem?_getD, List.getElem?_eq_getElem hi]
  exact h _ (List.getElem_mem hi)
theorem Ids.append {L M : List (List Nat)} (h : Ids L) (k : Ids M) : Ids (L ++ M) := fun x hx => (List.mem_append.1 hx).elim (h x) (k x)
def IAt (ao : Option Addr) (L : List (List Nat)) (w : World) : Prop :=
  L = [] ∨ ∃ b o, ao = some ⟨b, o, none⟩ ∧ b < w.heap.size ∧ ∀ i, i < L.length → w.rangeAt b (o + 32 * i) (nums .u8 (L.getD i []))
theorem IAt.get {b o : Nat} {L : List (List Nat)} {w : World} (h : IAt (some ⟨b, o, none⟩) L w) {i : Nat} (hi : i < L.length) : w.rangeAt b (o + i * 32) (nums .u8 (L.getD i [])) := by
  rcases h with rfl | ⟨b', o', h1, _, h3⟩
  · cases hi
  · simp only [Option.some.injEq, Addr.mk.injEq] at h1
    obtain ⟨rfl, rfl, _⟩ := h1
    rw [Nat.mul_comm]
    exact h3 i hi
def flatI (L : List (List Nat)) : List Value := L.flatMap (nums .u8)
theorem flatI_len {L : List (List Nat)} (h : Ids L) : (flatI L).length = L.length * 32 := by
  induction L with
  | nil => rfl
  | cons x L ih =>
    have h1 := (h x (by simp)).1
    have h2 := ih fun y hy => h y (by simp [hy])
    simp only [flatI, List.flatMap_cons, List.length_append, nums_len, List.length_cons] at *
    omega
theorem flatI_get {L : List (List Nat)} (h : Ids L) : ∀ {i j : Nat}, i < L.length → j < 32 → (flatI L)[32 * i + j]? = (nums .u8 (L.getD i []))[j]? := by
  induction L with
  | nil => intro i j hi _; cases hi
  | cons x L ih =>
    intro i j hi hj
    have h1 := (h x (by simp)).1
    have hx : (nums .u8 x).length = 32 := by rw [nums_len, h1]
    rw [flatI, List.flatMap_cons]
    cases i with
    | zero => rw [Nat.mul_zero, Nat.zero_add, List.getElem?_append_left (by omega)]; rfl
    | succ i =>
      rw [List.getElem?_append_right (by omega), hx, show 32 * (i + 1) + j - 32 = 32 * i + j by omega]
      exact ih (fun y hy => h y (by simp [hy])) (by simpa using hi) hj
def OwnI (B : Nat) (e : TypeId) (v : Value) (L : List (List Nat)) (w : World) : Prop := w.ownsRow B e 32 v L.length (flatI L)
theorem OwnI.form {B : Nat} {e : TypeId} {v : Value} {L : List (List Nat)} {w : World} (h : OwnI B e v L w) : ∃ ao cap, v = .slice ao L.length cap := by
  rcases h.2 with ⟨h1, h2⟩ | ⟨g, cap, _, h1, _⟩
  · exact ⟨_, _, by rw [h1, h2]⟩
  · exact ⟨_, _, h1⟩
theorem OwnI.formB {B : Nat} {e : TypeId} {v : Value} {L : List (List Nat)} {w : World} (h : OwnI B e v L w) (h0 : 0 < L.length) : ∃ g cap, v = .slice (some ⟨g, 0, none⟩) L.length cap ∧ B ≤ g ∧ g < w.heap.size := by
  rcases h.2 with ⟨_, h2⟩ | ⟨g, cap, cur, h1, h2, h3, _⟩
  · omega
  · exact ⟨g, cap, h1, h2, lt_of_block h3⟩
theorem OwnI.below {B : Nat} {e : TypeId} {v : Value} {L : List (List Nat)} {w w' : World} (h : OwnI B e v L w) (b : Below w.heap.size w w') : OwnI B e v L w' := by
  refine ⟨h.1, ?_⟩
  rcases h.2 with h2 | ⟨g, cap, cur, h1, h2, h3, h4⟩
  · exact .inl h2
  · exact .inr ⟨g, cap, cur, h1, h2, (b.block g (lt_of_block h3)).trans h3, h4⟩
theorem OwnI.mono {B B' : Nat} {e : TypeId} {v : Value} {L : List (List Nat)} {w : World} (h : OwnI B e v L w) (hB : B' ≤ B) : OwnI B' e v L w := by
  refine ⟨h.1, ?_⟩
  rcases h.2 with h2 | ⟨g, cap, cur, h1, h2, h3⟩
  · exact .inl h2
  · exact .inr ⟨g, cap, cur, h1, Nat.le_trans hB h2, h3⟩
theorem OwnI.but {B b : Nat} {e : TypeId} {v : Value} {L : List (List Nat)} {w w' : World} (h : OwnI B e v L w) (hb : But b w w') (ap : ∀ g, v.ownBlock = some g → b ≠ g) : OwnI B e v L w' := by
  refine ⟨h.1, ?_⟩
  rcases h.2 with h2 | ⟨g, cap, cur, h1, h2, h3, h4⟩
  · exact .inl h2
  · exact .inr ⟨g, cap, cur, h1, h2, (hb.block g (lt_of_block h3) (fun e => ap g (by rw [h1]; rfl) e.symm)).trans h3, h4⟩
theorem OwnI.at {B : Nat} {e : TypeId} {ao : Option Addr} {n c : Nat} {L : List (List Nat)} {w : World} (h : OwnI B e (.slice ao n c) L w) (hL : Ids L) : IAt ao L w := by
  by_cases h0 : L = []
  · exact .inl h0
  · obtain ⟨g, cap, hv, _, hg⟩ := h.formB (List.length_pos_iff.2 h0)
    obtain rfl : ao = some ⟨g, 0, none⟩ := by injection hv
    refine .inr ⟨g, 0, rfl, hg, fun i hi j v hj => ?_⟩
    have hc := World.ownsRow.cells h (g := g) rfl (32 * i + j) v
    have hj16 : j < 32 := by
      have := (List.getElem?_eq_some_iff.1 hj).1
      rw [nums_len, (hL.getD hi).1] at this
      exact this
    rw [flatI_get hL hi hj16, Addr.add_lit, Nat.zero_add] at hc
    rw [Nat.zero_add]
    exact hc hj
theorem wpList_load_id {P : Program} {ops : Array Oper} {rest : List Oper} {o : Oper} {a : Act} {w : World} {Q : Exit → Act → World → Prop} (hgd : o.guard = none) (ty : TypeId) (x : Operand) (ho : o.op = .load ty x)
    (b off : Nat) (l : List Nat) (d : TypeDesc) (hx : a.eval x = .pointer (some ⟨b, off, none⟩)) (hc : w.rangeAt b off (nums .u8 l))
    (hu : P.underlying ty = some d) (hd : d.isRow = true) (hi : (P.info? ty).map (·.size) = some l.length)
    (h : wpList P ops Q rest (a.put o.dst (.agg (nums .u8 l).toArray)) w) : wpList P ops Q (o :: rest) a w :=
  wpList_load_mid hgd ty x ho b off hx _ d hc hu hd (by rw [nums_len]; exact hi) h
theorem op_load_id {P : Program} {o : Oper} {a : Act} {w : World} {K : Act → World → Prop} {Q : Exit → Act → World → Prop} (ty : TypeId) (x : Operand) (ho : o.op = .load ty x) (b off : Nat) (l : List Nat) (d : TypeDesc)
    (hx : a.eval x = .pointer (some ⟨b, off, none⟩)) (hc : w.rangeAt b off (nums .u8 l)) (hu : P.underlying ty = some d) (hd : d.isRow = true) (hi : (P.info? ty).map (·.size) = some l.length)
    (h : K (a.put o.dst (.agg (nums .u8 l).toArray)) w) : OpWp P o a w K Q := by
  refine ⟨?_⟩
  unfold Oper.wp execOp
  simp only [ho, hx, Instr.loadAt, Instr.sureAddr, Sem.run_bind, Sem.run_pure, Result.andThen_ok, run_loadVar_mid w b off ty _ d hc hu hd (by rw [nums_len]; exact hi)]
  exact h
theorem trod_bytesI {H : Type} {enc : TypeId × Value → H} {P : Program} {W : World} {t e : TypeId} {n base fuel : Nat} {sp : Nat → Bool} {held : Bool} {cs : List Value} {x : DataW H × List MemPlace}
    (hu : P.underlying t = some (.array n e)) (he : P.underlying e = some (.int .u8)) (hone : P.cellsOf e = 1) (hsz : P.cellsOf t = n) (h : DataW.trod enc P W base sp held fuel t cs = some x) :
    ∃ l : List Nat, cs = nums .u8 l ∧ l.length = n ∧ ∀ y ∈ l, y < 256 := by
  obtain ⟨xs, m, _, _, hcl, hxl, hat⟩ := DataW.trod_array hu h
  rw [hsz] at hcl
  have key : ∀ i, i < n → ∃ z : Int, cs[i]? = some (.int .u8 z) ∧ 0 ≤ z ∧ z ≤ 255 := by
    intro i hi
    have h1 := hat i hi
    rw [hone, Nat.mul_one, List.getElem?_eq_getElem (by omega)] at h1
    obtain ⟨z, hz, _, hw⟩ := DataW.trod_int he h1
    refine ⟨z, ?_, ?_⟩
    · have := congrArg (fun l => l[0]?) hz
      simpa [List.getElem?_drop, List.getElem?_take] using this
    · simp only [Lit.wf, Bool.and_eq_true, decide_eq_true_eq] at hw
      exact ⟨hw.1, hw.2⟩
  refine ⟨cs.map fun v => (intOf v).toNat, ?_, by simp [hcl], ?_⟩
  · refine List.ext_getElem? fun i => ?_
    rw [nums, List.getElem?_map, List.getElem?_map]
    rcases Nat.lt_or_ge i n with hi | hi
    · obtain ⟨z, h1, h2, h3⟩ := key i hi
      rw [h1]
      simp [intOf]
      omega
    · rw [List.getElem?_eq_none (by omega)]
      rfl
  · intro y hy
    obtain ⟨v, hv, rfl⟩ := List.mem_map.1 hy
    obtain ⟨i, hi, rfl⟩ := List.mem_iff_getElem.1 hv
    obtain ⟨z, h1, h2, h3⟩ := key i (by omega)
    rw [List.getElem?_eq_getElem hi] at h1
    obtain h1 := Option.some.inj h1
    rw [h1]
    simp [intOf]
    omega
theorem Ids.set {L : List (List Nat)} (h : Ids L) (i : Nat) {x : List Nat} (hx : x.length = 32) (lx : ∀ y ∈ x, y < 256) : Ids (L.set i x) := fun z hz => by
  rcases List.mem_or_eq_of_mem_set hz with hz | rfl
  · exact h z hz
  · exact ⟨hx, lx⟩
theorem Ids.zeros (n : Nat) : Ids (List.replicate n (List.replicate 32 0)) := fun z hz => by
  obtain rfl := (List.mem_replicate.1 hz).2
  exact ⟨rfl, by decide⟩
theorem flatI_zeros (n : Nat) : flatI (List.replicate n (List.replicate 32 0)) = List.replicate (n * 32) (.int .u8 0) := by
  induction n with
  | zero => rfl
  | succ n ih =>
    rw [List.replicate_succ, flatI, List.flatMap_cons]
    rw [show nums .u8 (List.replicate 32 0) = List.replicate 32 (.int .u8 0) from rfl]
    have ih' : List.flatMap (nums .u8) (List.replicate n (List.replicate 32 0)) = List.replicate (n * 32) (.int .u8 0) := ih
    rw [ih', List.replicate_append_replicate]
    congr 1
    omega
theorem madeCells_32 (n : Nat) : (madeCells (Value.agg (nums .u8 (List.replicate 32 0)).toArray).cells (n * 32)).toList = flatI (List.replicate n (List.replicate 32 0)) := by
  rw [flatI_zeros]
  refine List.ext_getElem (by simp [madeCells]) fun j h1 h2 => ?_
  have hz : (Value.agg (nums .u8 (List.replicate 32 0)).toArray).cells = Array.replicate 32 (.int .u8 0) := rfl
  simp only [madeCells, hz, Array.getElem_toList, Array.getElem_map, Array.getElem_range, List.getElem_replicate, Array.size_replicate]
  have hj : j % 32 < 32 := Nat.mod_lt _ (by decide)
  rw [getElem!_pos _ _ (by simpa using hj), Array.getElem_replicate]
theorem OwnI.made {B g n : Nat} {e : TypeId} {w : World} (h : w.ownsRow B e 32 (.slice (some ⟨g, 0, none⟩) n n) n (madeCells (Value.agg (nums .u8 (List.replicate 32 0)).toArray).cells (n * 32)).toList) :
    OwnI B e (.slice (some ⟨g, 0, none⟩) n n) (List.replicate n (List.replicate 32 0)) w := by
  unfold OwnI
  rw [List.length_replicate, ← madeCells_32]
  exact h
def layLI (xs : List Value) : Nat → List Value → List Value
  | _, [] => xs
  | o, v :: r => layLI (xs.set o v) (o + 1) r
theorem layL_getI : ∀ (vs : List Value) (xs : List Value) (o j : Nat), o + vs.length ≤ xs.length → (layLI xs o vs)[j]? = if o ≤ j ∧ j < o + vs.length then vs[j - o]? else xs[j]?
  | [], xs, o, j, _ => by rw [layLI, if_neg (by simp only [List.length_nil]; omega)]
  | v :: r, xs, o, j, h => by
    simp only [List.length_cons] at h ⊢
    rw [layLI, layL_getI r (xs.set o v) (o + 1) j (by rw [List.length_set]; omega)]
    by_cases h1 : o + 1 ≤ j ∧ j < o + 1 + r.length
    · rw [if_pos h1, if_pos (by omega), show j - o = (j - (o + 1)) + 1 by omega, List.getElem?_cons_succ]
    · rw [if_neg h1]
      by_cases h2 : j = o
      · subst h2
        rw [if_pos (by omega), Nat.sub_self, List.getElem?_set_self (by omega)]
        rfl
      · rw [if_neg (by omega), List.getElem?_set_ne (by omega)]
theorem flatI_set {L : List (List Nat)} (hL : Ids L) {i : Nat} (hi : i < L.length) {x : List Nat} (hx : x.length = 32) (lx : ∀ y ∈ x, y < 256) : flatI (L.set i x) = layLI (flatI L) (32 * i) (nums .u8 x) := by
  have hnx : (nums .u8 x).length = 32 := by rw [nums_len, hx]
  have hfl := flatI_len hL
  have hS := hL.set i hx lx
  have hfs := flatI_len hS
  rw [List.length_set] at hfs
  refine List.ext_getElem? fun j => ?_
  rw [layL_getI _ _ _ _ (by rw [hnx, hfl]; omega), hnx]
  rcases Nat.lt_or_ge j (L.length * 32) with hj | hj
  · obtain ⟨q, m, rfl, hm⟩ : ∃ q m, j = 32 * q + m ∧ m < 32 := ⟨j / 32, j % 32, by omega, Nat.mod_lt _ (by decide)⟩
    rw [flatI_get hS (by rw [List.length_set]; omega) hm, flatI_get hL (by omega) hm]
    by_cases hq : q = i
    · subst hq
      rw [if_pos (by omega), show 32 * q + m - 32 * q = m by omega]
      simp [List.getD_eq_getElem?_getD, List.getElem?_set_self hi]
    · rw [if_neg (by omega)]
      simp [List.getD_eq_getElem?_getD, List.getElem?_set_ne (Ne.symm hq)]
  · rw [if_neg (by omega), List.getElem?_eq_none (by omega), List.getElem?_eq_none (by omega)]
theorem ownsRow_layI {B g n c size : Nat} {e : TypeId} : ∀ (vs xs : List Value) (o : Nat) (w : World), w.ownsRow B e size (.slice (some ⟨g, 0, none⟩) n c) n xs → (w.setCells g o vs).ownsRow B e size (.slice (some ⟨g, 0, none⟩) n c) n (layLI xs o vs)
  | [], _, _, _, h => h
  | v :: r, _, o, _, h => ownsRow_layI r _ (o + 1) _ (World.ownsRow.stored h o v).1
theorem OwnI.set {B g n c i : Nat} {e : TypeId} {L : List (List Nat)} {w : World} (hn : n = L.length) (h : OwnI B e (.slice (some ⟨g, 0, none⟩) n c) L w) (hL : Ids L) (hi : i < n) {x : List Nat} (hx : x.length = 32) (lx : ∀ y ∈ x, y < 256) :
    OwnI B e (.slice (some ⟨g, 0, none⟩) n c) (L.set i x) (w.setCells g (32 * i) (nums .u8 x)) := by
  subst hn
  have h1 := ownsRow_layI (nums .u8 x) _ (32 * i) w h
  unfold OwnI
  rw [List.length_set, flatI_set hL hi hx lx]
  exact h1
theorem OwnI.there {B g n c i : Nat} {e : TypeId} {L : List (List Nat)} {w : World} (hn : n = L.length) (h : OwnI B e (.slice (some ⟨g, 0, none⟩) n c) L w) (hL : Ids L) (hi : i < n) : w.there g (32 * i) 32 := by
  subst hn
  intro j hj
  exact ⟨by rw [World.ownsRow.cellAt h (32 * i + j) (by omega), List.getElem?_eq_getElem (by rw [flatI_len hL]; omega)]; rfl, World.ownsRow.frozenAt h (32 * i + j)⟩
theorem But.setCellsI {b : Nat} {w : World} : ∀ (vs : List Value) (o : Nat) (w' : World), But b w w' → But b w (w'.setCells b o vs)
  | [], _, _, h => h
  | v :: r, o, _, h => But.setCellsI r (o + 1) _ (h.setCell o v)
theorem wpList_store_id {P : Program} {w : World} {ops : Array Oper} {rest : List Oper} {o : Oper} {a : Act} {Q : Exit → Act → World → Prop} (hgd : o.guard = none) (ty : TypeId) (x y : Operand) (ho : o.op = .store ty x y) (hd : o.dst = none)
    (B g n c i off : Nat) (e : TypeId) (L : List (List Nat)) (l : List Nat) (hn : n = L.length) (hoff : off = 32 * i) (hx : a.eval x = .pointer (some ⟨g, off, none⟩)) (hy : a.eval y = .agg (nums .u8 l).toArray)
    (hO : OwnI B e (.slice (some ⟨g, 0, none⟩) n c) L w) (hL : Ids L) (hi : i < n) (hl : l.length = 32) (ll : ∀ y ∈ l, y < 256) (hty : (P.info? ty).map (·.size) = some 32)
    (h : ∀ w', Hid (OwnI B e (.slice (some ⟨g, 0, none⟩) n c) (L.set i l) w') → Hid (But g w w') → wpList P ops Q rest a w') : wpList P ops Q (o :: rest) a w := by
  subst hoff
  have hs : (nums .u8 l).toArray.size = 32 := by rw [List.size_toArray, nums_len, hl]
  refine wpList_store_mid hgd ty x y ho g (32 * i) _ hx hy (by rw [hs]; exact hO.there hn hL hi) (by rw [hs]; exact hty) (all_oneCell_toArray (nums_one _ _)) ?_
  rw [hd]
  refine h _ ?_ ?_
  · exact (hO.set hn hL hi hl ll)
  · exact (But.setCellsI _ _ _ (But.refl _ _))
theorem rangeAt_belowI {b o B : Nat} {cs : List Value} {w w' : World} (h : w.rangeAt b o cs) (hb : Below B w w') (hB : b < B) : w'.rangeAt b o cs := fun j v hv => (hb.cell (p := ⟨b, o + j, none⟩) hB).trans (h j v hv)
theorem Tryz.infoI32 : (Tryz.prog.info? 43).map (fun i => (i.zero, i.size, i.bytes)) = some (some (.agg (nums .u8 (List.replicate 32 0)).toArray), 32, 32) := by kernel_rfl
theorem equal_idI (a b : List Nat) (ha : a.length = 32) (hb : b.length = 32) (la : ∀ x ∈ a, x < 256) (lb : ∀ x ∈ b, x < 256) (w : World) :
    (Op.equalIn 10000 43 (.agg (nums .u8 a).toArray) (.agg (nums .u8 b).toArray)).run Tryz.prog w = .ok (a == b) w :=
  equal_nums _ _ _ Tryz.underlying43 Tryz.underlying5 Tryz.sizeOf5 a b ha hb la lb w
end Go.Proofs.YtpfhlhcnmeodbaaGreatDoor
namespace Go.Proofs.YtpfhlhcnmeodbaaGreatDoor
open Go.RowKit
structure Only (O : Nat → Prop) (w w' : World) : Prop where
  os : w'.os = w.os
  tape : w'.tape = w.tape
  output : w'.output = w.output
  size : w.heap.size ≤ w'.heap.size
  block : ∀ k, k < w.heap.size → ¬ O k → w'.heap[k]? = w.heap[k]?
theorem Only.refl (O : Nat → Prop) (w : World) : Only O w w := ⟨rfl, rfl, rfl, Nat.le_refl _, fun _ _ _ => rfl⟩
theorem Only.below {O : Nat → Prop} {w w1 w2 : World} (h : Only O w w1) (k : Below w1.heap.size w1 w2) : Only O w w2 :=
  ⟨k.os.trans h.os, k.tape.trans h.tape, k.output.trans h.output, Nat.le_trans h.size k.size, fun i hi hO => (k.block i (Nat.lt_of_lt_of_le hi h.size)).trans (h.block i hi hO)⟩
theorem Only.of {O : Nat → Prop} {w w' : World} (h : Below w.heap.size w w') : Only O w w' := (Only.refl O w).below h
theorem Only.but {O : Nat → Prop} {b : Nat} {w w1 w2 : World} (h : Only O w w1) (k : But b w1 w2) (hb : O b ∨ w.heap.size ≤ b) : Only O w w2 :=
  ⟨k.os.trans h.os, k.tape.trans h.tape, k.output.trans h.output, Nat.le_trans h.size k.size, fun i hi hO => (k.block i (Nat.lt_of_lt_of_le hi h.size) (fun e => by
    subst e
    rcases hb with hb | hb
    · exact hO hb
    · omega)).trans (h.block i hi hO)⟩
theorem Only.grown {O : Nat → Prop} {row : Option Nat} {w w1 w2 : World} (h : Only O w w1) (k : w1.grownBy w2 row) (hr : ∀ b, row = some b → O b ∨ w.heap.size ≤ b) : Only O w w2 :=
  ⟨k.os.trans h.os, k.tape.trans h.tape, k.output.trans h.output, Nat.le_trans h.size k.size, fun i hi hO => (k.block i (Nat.lt_of_lt_of_le hi h.size) (fun e => by
    rcases hr i e.symm with hb | hb
    · exact hO hb
    · omega)).trans (h.block i hi hO)⟩
theorem Only.setCell {O : Nat → Prop} {w w1 : World} (h : Only O w w1) {b : Nat} (o : Nat) (v : Value) (hb : O b ∨ w.heap.size ≤ b) : Only O w (w1.setCell ⟨b, o, none⟩ v) := h.but ((But.refl b w1).setCell o v) hb
theorem Only.trans {O O' : Nat → Prop} {w1 w2 w3 : World} (h : Only O w1 w2) (k : Only O' w2 w3) (ho : ∀ b, O' b → O b ∨ w1.heap.size ≤ b) : Only O w1 w3 :=
  ⟨k.os.trans h.os, k.tape.trans h.tape, k.output.trans h.output, Nat.le_trans h.size k.size, fun i hi hO => (k.block i (Nat.lt_of_lt_of_le hi h.size) (fun e => by
    rcases ho i e with hb | hb
    · exact hO hb
    · omega)).trans (h.block i hi hO)⟩
theorem Only.toBelow {O : Nat → Prop} {B : Nat} {w0 w w' : World} (h0 : Below B w0 w) (h : Only O w w') (hO : ∀ b, O b → B ≤ b) (hB : B ≤ w.heap.size) : Below B w0 w' :=
  h0.trans ⟨h.os, h.tape, h.output, h.size, fun k hk => h.block k (Nat.lt_of_lt_of_le hk hB) (fun e => by have := hO k e; omega)⟩
structure Turn (O O' : Nat → Prop) (w w' : World) : Prop where
  only : Only O w w'
  own : ∀ b, O' b → O b ∨ w.heap.size ≤ b
theorem Turn.refl (O : Nat → Prop) (w : World) : Turn O O w w := ⟨Only.refl O w, fun _ h => .inl h⟩
theorem Turn.below {O O' : Nat → Prop} {w1 w2 w3 : World} (h : Turn O O' w1 w2) (k : Below w2.heap.size w2 w3) : Turn O O' w1 w3 := ⟨h.only.below k, h.own⟩
theorem Turn.of {O : Nat → Prop} {w w' : World} (k : Below w.heap.size w w') : Turn O O w w' := (Turn.refl O w).below k
theorem Cells.only {O : Nat → Prop} {b : Nat} {t : TypeId} {cs : Array Value} {w w' : World} (h : Cells b t cs w) (k : Only O w w') (hb : ¬ O b) : Cells b t cs w' := (k.block b h.lt hb).trans h
theorem Cells.set {g : Nat} {t : TypeId} {cs : Array Value} {w : World} (h : Cells g t cs w) (j : Nat) (u : Value) : Cells g t (cs.setIfInBounds j u) (w.setCell ⟨g, j, none⟩ u) := heap_setCell_at h
theorem Cells.at {g : Nat} {t : TypeId} {cs : Array Value} {w : World} (h : Cells g t cs w) (j : Nat) : w.cell? ⟨g, j, none⟩ = cs[j]? := Lib.cell_of_heap h j
theorem Cells.frozen {g : Nat} {t : TypeId} {cs : Array Value} {w : World} (h : Cells g t cs w) (j : Nat) : w.frozen? ⟨g, j, none⟩ = false := by
  have h' : w.heap[g]? = some (.cells cs t (0, 0)) := h
  simp [World.frozen?, h']
theorem quiet_conv {P : Program} {o : Oper} {a : Act} {C : World → Prop} {K : Act → Prop} (t u : TypeId) (x : Operand) (ho : o.op = .convert t u x) (v r : Value) (hx : a.eval x = v)
    (hC : ∀ w, C w → (convert t u v).run P w = .ok r w) (hk : K (a.put o.dst r)) : o.quiet P a C K := by
  refine ⟨_, fun w hw => ?_, hk⟩
  unfold Oper.quietAt execOp
  simp only [ho, hx, Sem.run_bind, hC w hw, Result.andThen_ok, Sem.run_pure]
  exact ⟨rfl, rfl⟩
end Go.Proofs.YtpfhlhcnmeodbaaGreatDoor
namespace Go.Proofs.YtpfhlhcnmeodbaaGreatDoor
open Go.RowKit
section
variable {P : Program} {o : Oper} {a : Act} {w : World} {K : Act → World → Prop} {Q : Exit → Act → World → Prop}
theorem op_nilCheck (x : Operand) (ho : o.op = .nilCheck x) (p : Addr) (hx : a.eval x = .pointer (some p)) (h : K (a.put o.dst (.pointer (some p))) w) : OpWp P o a w K Q := by
  refine ⟨?_⟩
  unfold Oper.wp execOp
  simp only [ho, hx, Sem.run_pure]
  exact h
theorem op_fieldAt (ty : TypeId) (x : Operand) (k : Nat) (ho : o.op = .fieldAddr ty x k) (p q : Addr) (hx : a.eval x = .pointer (some p)) (hr : ∀ w, (Instr.fieldAt ty (.pointer (some p)) k).run P w = .ok (.pointer (some q)) w)
    (h : K (a.put o.dst (.pointer (some q))) w) : OpWp P o a w K Q := by
  refine ⟨?_⟩
  unfold Oper.wp execOp
  simp only [ho, hx, Sem.run_bind, Sem.run_pure, hr, Result.andThen_ok]
  exact h
theorem op_load_cell (ty : TypeId) (x : Operand) (ho : o.op = .load ty x) (p : Addr) (v : Value) (hx : a.eval x = .pointer (some p)) (hc : w.cell? p = some v) (hi : ∀ w, (isAgg ty).run P w = .ok false w) (h : K (a.put o.dst v) w) : OpWp P o a w K Q := by
  refine ⟨?_⟩
  unfold Oper.wp execOp
  simp only [ho, hx, Instr.loadAt, Instr.sureAddr, Sem.run_bind, Sem.run_pure, Result.andThen_ok, run_loadVar_cell w ty p v hc hi]
  exact h
theorem op_indexAt (ty : TypeId) (x y : Operand) (ho : o.op = .indexAddr ty x y) (vx vy : Value) (q : Addr) (hx : a.eval x = vx) (hy : a.eval y = vy) (hr : ∀ w, (Instr.indexAt ty vx vy).run P w = .ok (.pointer (some q)) w)
    (h : K (a.put o.dst (.pointer (some q))) w) : OpWp P o a w K Q := by
  refine ⟨?_⟩
  unfold Oper.wp execOp
  simp only [ho, hx, hy, Sem.run_bind, Sem.run_pure, hr, Result.andThen_ok]
  exact h
theorem op_build (t : TypeId) (parts : Array (Nat × Operand)) (ho : o.op = .build t parts) (vs : List (Nat × Value)) (cells : Array Value) (hv : (parts.map fun (i, x) => (i, a.eval x)) = vs.toArray)
    (hc : ∀ w, (Instr.build t vs.toArray).run P w = .ok (.agg cells) w) (h : K (a.put o.dst (.agg cells)) w) : OpWp P o a w K Q := by
  refine ⟨?_⟩
  unfold Oper.wp execOp
  simp only [ho, hv, Sem.run_bind, Sem.run_pure, hc, Result.andThen_ok]
  exact h
theorem op_conv (t u : TypeId) (x : Operand) (ho : o.op = .convert t u x) (v r : Value) (hx : a.eval x = v) (hC : (convert t u v).run P w = .ok r w) (h : K (a.put o.dst r) w) : OpWp P o a w K Q := by
  refine ⟨?_⟩
  unfold Oper.wp execOp
  simp only [ho, hx, Sem.run_bind, hC, Result.andThen_ok, Sem.run_pure]
  exact h
end
theorem FreeStep.asked {P : Program} {ops : Array Oper} {Q : Exit → Act → World → Prop} {F : (Nat → Value) → Act} {Inv : (Nat → Bool) → (Nat → Value) → World → Prop} {o : Oper} {i : Nat} (j : Nat) (b : Bool) (hg : o.guard = some (j, b))
    (hy : ∀ V, V j = .bool b → yielded ops (F V).tmps j = some b) (hv : ∀ s V w, (∀ e ∈ o.after, Region.binds .any e = true → s e.on = true) → Inv s V w → V j = .bool b)
    (h : ∀ s V w, (∀ e ∈ o.after, Region.binds .any e = true → s e.on = true) → s i = false → Inv s V w → ∀ K : Act → World → Prop, (∀ v w', Inv (fun j => s j || j == i) (upd V i v) w' → K ((F V).put o.dst v) w') → OpWp P o (F V) w K Q) : FreeStep P ops Q F Inv o i := ⟨fun s V w hr hu hI K hK => by
  have hw : Region.wanted o (yielded ops (F V).tmps) = true := by simp [Region.wanted, hg, hy V (hv s V w hr hI)]
  rw [if_pos hw]
  exact (h s V w hr hu hI K hK).out⟩
theorem op_eqlv {P : Program} {o : Oper} {a : Act} {w : World} {K : Act → World → Prop} {Q : Exit → Act → World → Prop} (t u : TypeId) (x y : Operand) (ho : o.op = .binOp .eql t x y u) (vx vy : Value) (b : Bool) (hx : a.eval x = vx) (hy : a.eval y = vy)
    (hg : ∀ w, (eqGuard .eql t x y vx vy).run P w = .ok () w) (hr : ∀ w, (binOp .eql t vx vy).run P w = .ok (.bool b) w) (h : K (a.put o.dst (.bool b)) w) : OpWp P o a w K Q := by
  refine ⟨?_⟩
  unfold Oper.wp execOp
  simp only [ho, hx, hy, Sem.run_bind, Sem.run_pure, hg, hr, Result.andThen_ok]
  exact h
theorem op_pick_yes {P : Program} {o : Oper} {a : Act} {w : World} {K : Act → World → Prop} {Q : Exit → Act → World → Prop} (c x y : Operand) (ho : o.op = .pick c x y) (hc : a.eval c = .bool true) (v : Value) (hx : a.eval x = v) (h : K (a.put o.dst v) w) : OpWp P o a w K Q := by
  refine ⟨?_⟩
  unfold Oper.wp execOp
  simp only [ho, hc, hx, asBool, Sem.run_bind, Sem.run_pure, Result.andThen_ok, if_true]
  exact h
theorem op_slice_tail {P : Program} {o : Oper} {a : Act} {w : World} {K : Act → World → Prop} {Q : Exit → Act → World → Prop} (ty : TypeId) (x : Operand) (n : Nat) (ho : o.op = .slice ty x (some (.const (.int .i64 n))) none none) (s : List UInt8) (hx : a.eval x = .string ⟨s.toArray⟩)
    (hu : P.underlying ty = some .string) (hn : n ≤ s.length) (h : K (a.put o.dst (.string ⟨(s.drop n).toArray⟩)) w) : OpWp P o a w K Q := by
  have hr := run_slice_string_l (P := P) w ty ⟨s.toArray⟩ hu .i64 (n : Int) (by omega) (by show (n : Int) ≤ ((⟨s.toArray⟩ : ByteArray).size : Int); simp [ByteArray.size]; omega)
  rw [Int.toNat_natCast, show (⟨s.toArray⟩ : ByteArray).size = s.length by simp [ByteArray.size], extract_tail] at hr
  have hr2 := (run_sliceAt_string (P := P) w ty (.string ⟨s.toArray⟩) (some (.int .i64 (n : Int))) none none hu).trans hr
  refine ⟨?_⟩
  unfold Oper.wp execOp
  simp only [ho, Option.map_some, Option.map_none, show a.eval (.const (.int .i64 (n : Int))) = .int .i64 (n : Int) from rfl, hx, Sem.run_bind, Sem.run_pure, hr2, Result.andThen_ok]
  exact h
theorem op_bin {P : Program} {o : Oper} {a : Act} {w : World} {K : Act → World → Prop} {Q : Exit → Act → World → Prop} (op : BinOp) (t u : TypeId) (x y : Operand) (ho : o.op = .binOp op t x y u) (vx vy r : Value) (hx : a.eval x = vx) (hy : a.eval y = vy)
    (hg : ∀ w, (eqGuard op t x y vx vy).run P w = .ok () w) (hr : ∀ w, (binOp op t vx vy).run P w = .ok r w) (h : K (a.put o.dst r) w) : OpWp P o a w K Q := by
  refine ⟨?_⟩
  unfold Oper.wp execOp
  simp only [ho, hx, hy, Sem.run_bind, Sem.run_pure, hg, hr, Result.andThen_ok]
  exact h
theorem results_cells_tmp {P : Program} {fn : Func} {p u : Tmp} {ty : TypeId} (h : fn.results = #[.cell p ty, .tmp u]) (tmps : Array Value) (w : World) (g : Nat) (cs : Array Value) (t : TypeId) (d : TypeDesc) (v : Value)
    (hp : tmps.getD p undef = .pointer (some ⟨g, 0, none⟩)) (hv : tmps.getD u undef = v) (hg : Cells g t cs w)
    (hu : P.underlying ty = some d) (hd : (match d with | .struct _ | .array _ _ => true | _ => false) = true) (hi : (P.info? ty).map (·.size) = some cs.size) :
    (results fn tmps).run P w = .ok (.tuple #[.agg cs, v]) w := by
  rw [results_cell_tmp h, hp, hv]
  simp [asAddr, Result.andThen, run_loadVar_row w g t ty _ (0, 0) d hg hu hd hi]
end Go.Proofs.YtpfhlhcnmeodbaaGreatDoor
namespace Go.Proofs.YtpfhlhcnmeodbaaGreatDoor
open Go.RowKit Go.BigFrame
def draftL (d : DraftN) : List Value := .int .i64 d.kind :: .string ⟨d.key.toArray⟩ :: .string ⟨d.val.toArray⟩ :: nums .u8 d.ref
def draftV (d : DraftN) : Array Value := (draftL d).toArray
theorem draftL_len {d : DraftN} (h : d.ref.length = 32) : (draftL d).length = 35 := by simp [draftL, nums_len, h]
theorem draftL_one (d : DraftN) : ∀ u ∈ draftL d, u.oneCell' = true := fun u hu => by
  simp only [draftL, List.mem_cons] at hu
  rcases hu with rfl | rfl | rfl | hu
  · rfl
  · rfl
  · rfl
  · exact nums_one _ _ u hu
theorem zeroI_lit : (nums .u8 zeroI).toArray = #[.int .u8 0, .int .u8 0, .int .u8 0, .int .u8 0, .int .u8 0, .int .u8 0, .int .u8 0, .int .u8 0, .int .u8 0, .int .u8 0, .int .u8 0, .int .u8 0, .int .u8 0, .int .u8 0, .int .u8 0, .int .u8 0, .int .u8 0, .int .u8 0, .int .u8 0, .int .u8 0, .int .u8 0, .int .u8 0, .int .u8 0, .int .u8 0, .int .u8 0, .int .u8 0, .int .u8 0, .int .u8 0, .int .u8 0, .int .u8 0, .int .u8 0, .int .u8 0] := rfl
theorem Tryz.sizeI : (Tryz.prog.info? 43).map (·.size) = some 32 := by kernel_rfl
theorem draft_cells {g : Nat} {t : TypeId} {d : DraftN} {w : World} (h : Cells g t (draftV d) w) : w.cell? ⟨g, 0, none⟩ = some (.int .i64 d.kind) ∧ w.cell? ⟨g, 1, none⟩ = some (.string ⟨d.key.toArray⟩) ∧ w.cell? ⟨g, 2, none⟩ = some (.string ⟨d.val.toArray⟩) ∧ w.rangeAt g 3 (nums .u8 d.ref) := by
  refine ⟨by rw [h.at]; rfl, by rw [h.at]; rfl, by rw [h.at]; rfl, fun j v hj => ?_⟩
  rw [h.at, draftV, List.getElem?_toArray, draftL, Nat.add_comm, List.getElem?_cons_succ, List.getElem?_cons_succ, List.getElem?_cons_succ]
  exact hj
theorem val_nil_beq (v : List UInt8) : (v == []) = decide (v = []) := by cases v <;> simp
end Go.Proofs.YtpfhlhcnmeodbaaGreatDoor
namespace Go.Proofs.YtpfhlhcnmeodbaaGreatDoor
open Go.RowKit
def putL (xs : List Value) : Nat → List Value → List Value
  | _, [] => xs
  | o, v :: r => putL (xs.set o v) (o + 1) r
theorem fold_putL (off : Nat) : ∀ (vs : List Value) (cs : Array Value) (k : Nat), List.foldl (fun (cs : Array Value) (x : Value × Nat) => cs.setIfInBounds (off + x.2) x.1) cs (vs.zipIdx k) = (putL cs.toList (off + k) vs).toArray
  | [], cs, k => by simp [putL]
  | v :: r, cs, k => by rw [List.zipIdx_cons, List.foldl_cons, fold_putL off r, putL]; simp [Nat.add_assoc]
theorem putL_mid : ∀ (vs xs ys zs : List Value), vs.length = ys.length → putL (xs ++ (ys ++ zs)) xs.length vs = xs ++ (vs ++ zs)
  | [], xs, ys, zs, h => by
    obtain rfl : ys = [] := List.length_eq_zero_iff.1 h.symm
    rfl
  | v :: r, xs, ys, zs, h => by
    cases ys with
    | nil => cases h
    | cons y ys =>
      have ih := putL_mid r (xs ++ [v]) ys zs (by simpa using h)
      rw [List.length_append, List.length_singleton] at ih
      rw [putL, List.cons_append, List.set_append_right _ _ (Nat.le_refl _), Nat.sub_self, List.set_cons_zero]
      simpa using ih
theorem fill_lay (place : Nat → Option (Nat × Nat)) (i off size : Nat) (v : Value) (rest : List (Nat × Value)) (xs ys zs vs : List Value) (hp : place i = some (off, size)) (hv : v.cells.toList = vs) (h1 : vs.length = size) (h2 : ys.length = size) (h3 : xs.length = off) :
    Instr.fill place (xs ++ (ys ++ zs)).toArray ((i, v) :: rest) = Instr.fill place (xs ++ (vs ++ zs)).toArray rest := by
  have hc : v.cells.size = size := by rw [← h1, ← hv, Array.length_toList]
  rw [Instr.fill]
  simp only [hp]
  rw [if_neg (by simp [hc]; omega)]
  congr 1
  rw [← Array.foldl_toList, Array.toList_zipIdx, fold_putL off, hv]
  show (putL (xs ++ (ys ++ zs)) (off + 0) vs).toArray = _
  rw [Nat.add_zero, ← h3, putL_mid _ _ _ _ (by omega)]
theorem fill_end (place : Nat → Option (Nat × Nat)) (cs : Array Value) : Instr.fill place cs [] = some cs := rfl
theorem run_build_val {P : Program} {a : Act} {w : World} (t : TypeId) (parts : Array (Nat × Operand)) (vals : List (Nat × Value)) (cs : Array Value)
    (hp : (parts.map fun (i, x) => (i, a.eval x)) = vals.toArray) (hb : P.built t vals = some cs) : (Instr.build t (parts.map fun (i, x) => (i, a.eval x))).run P w = .ok (.agg cs) w := by
  rw [hp]
  exact run_build w t vals.toArray cs (by simpa using hb)
theorem wpList_build_val {P : Program} {ops : Array Oper} {rest : List Oper} {o : Oper} {a : Act} {w : World} {Q : Exit → Act → World → Prop} (hg : o.guard = none) (t : TypeId) (parts : Array (Nat × Operand)) (ho : o.op = .build t parts)
    (vals : List (Nat × Value)) (cs : Array Value) (hp : (parts.map fun (i, x) => (i, a.eval x)) = vals.toArray) (hb : P.built t vals = some cs) (hk : wpList P ops Q rest (a.put o.dst (.agg cs)) w) : wpList P ops Q (o :: rest) a w := by
  refine wpList_plain hg fun K hK => ?_
  unfold Oper.wp execOp
  simp only [ho, Sem.run_bind, run_build_val t parts vals cs hp hb, Result.andThen_ok]
  exact hK _ _ hk
theorem wpList_build_want {P : Program} {ops : Array Oper} {rest : List Oper} {o : Oper} {a : Act} {w : World} {Q : Exit → Act → World → Prop} (hw : Region.wanted o (yielded ops a.tmps) = true) (t : TypeId) (parts : Array (Nat × Operand)) (ho : o.op = .build t parts)
    (vals : List (Nat × Value)) (cs : Array Value) (hp : (parts.map fun (i, x) => (i, a.eval x)) = vals.toArray) (hb : P.built t vals = some cs) (hk : wpList P ops Q rest (a.put o.dst (.agg cs)) w) : wpList P ops Q (o :: rest) a w := by
  refine BigFrame.wpList_want hw fun K hK => ?_
  unfold Oper.wp execOp
  simp only [ho, Sem.run_bind, run_build_val t parts vals cs hp hb, Result.andThen_ok]
  exact hK _ _ hk
theorem quiet_build_val {P : Program} {o : Oper} {a : Act} {C : World → Prop} {K : Act → Prop} (t : TypeId) (parts : Array (Nat × Operand)) (ho : o.op = .build t parts)
    (vals : List (Nat × Value)) (cs : Array Value) (hp : (parts.map fun (i, x) => (i, a.eval x)) = vals.toArray) (hb : P.built t vals = some cs) (hk : K (a.put o.dst (.agg cs))) : o.quiet P a C K := by
  refine ⟨_, fun w hw => ?_, hk⟩
  unfold Oper.quietAt execOp
  simp only [ho, Sem.run_bind, run_build_val t parts vals cs hp hb, Result.andThen_ok]
  exact ⟨rfl, rfl⟩
theorem wpList_load_cells_want {P : Program} {w : World} {ops : Array Oper} {rest : List Oper} {o : Oper} {a : Act} {Q : Exit → Act → World → Prop} (hw : Region.wanted o (yielded ops a.tmps) = true) (ty : TypeId) (x : Operand) (ho : o.op = .load ty x)
    (g : Nat) (cs : Array Value) (t : TypeId) (d : TypeDesc) (hx : a.eval x = .pointer (some ⟨g, 0, none⟩)) (hg : Cells g t cs w)
    (hu : P.underlying ty = some d) (hd : (match d with | .struct _ | .array _ _ => true | _ => false) = true) (hi : (P.info? ty).map (·.size) = some cs.size)
    (h : wpList P ops Q rest (a.put o.dst (.agg cs)) w) : wpList P ops Q (o :: rest) a w :=
  BigFrame.wpList_want hw fun _ hK => wp_load_row ty x ho g hx t _ _ d hg hu hd hi (hK _ _ h)
theorem quiet_load_row {P : Program} {o : Oper} {a : Act} {C : World → Prop} {K : Act → Prop} (ty : TypeId) (x : Operand) (ho : o.op = .load ty x) (b off : Nat) (cs : List Value) (d : TypeDesc)
    (hx : a.eval x = .pointer (some ⟨b, off, none⟩)) (hC : ∀ w, C w → w.rangeAt b off cs) (hu : P.underlying ty = some d) (hd : d.isRow = true) (hi : (P.info? ty).map (·.size) = some cs.length)
    (hk : K (a.put o.dst (.agg cs.toArray))) : o.quiet P a C K := by
  refine ⟨_, fun w hw => ?_, hk⟩
  unfold Oper.quietAt execOp
  simp only [ho, hx, Instr.loadAt, Instr.sureAddr, Sem.run_bind, Sem.run_pure, Result.andThen_ok, run_loadVar_mid w b off ty _ d (hC w hw) hu hd hi]
  exact ⟨rfl, rfl⟩
theorem quiet_bin {P : Program} {o : Oper} {a : Act} {C : World → Prop} {K : Act → Prop} (op : BinOp) (t u : TypeId) (x y : Operand) (ho : o.op = .binOp op t x y u) (vx vy r : Value) (hx : a.eval x = vx) (hy : a.eval y = vy)
    (hg : ∀ w, (eqGuard op t x y vx vy).run P w = .ok () w) (hr : ∀ w, (binOp op t vx vy).run P w = .ok r w) (hk : K (a.put o.dst r)) : o.quiet P a C K := by
  refine ⟨_, fun w hw => ?_, hk⟩
  unfold Oper.quietAt execOp
  simp only [ho, hx, hy, Sem.run_bind, Sem.run_pure, hg, hr, Result.andThen_ok]
  exact ⟨rfl, rfl⟩
theorem part_row {P : Program} {w : World} {t : TypeId} {xs vs : Array Value} {off n : Nat} (h1 : (isAgg t).run P w = .ok true w) (h2 : (sizeOf t).run P w = .ok n w) (h3 : xs.extract off (off + n) = vs) : (Go.part t xs off).run P w = .ok (.agg vs) w := by
  simp only [Go.part, Sem.run_bind, h1, h2, Result.andThen_ok, if_true, h3, Sem.run_pure]
theorem part_cell {P : Program} {w : World} {t : TypeId} {xs : Array Value} {off : Nat} {v : Value} (h1 : (isAgg t).run P w = .ok false w) (h3 : xs[off]? = some v) : (Go.part t xs off).run P w = .ok v w := by
  simp only [Go.part, Sem.run_bind, h1, Result.andThen_ok, Bool.false_eq_true, if_false, h3, Sem.run_pure]
theorem eqFields_cons {P : Program} {w : World} {d : Nat} {xs ys : Array Value} {f : Field} {fs : List Field} {nm : String} {t : TypeId} {off : Nat} {a b : Value} {r s : Bool} (hf : (f.name, f.type, f.offset) = (nm, t, off)) (hn : nm ≠ "_")
    (ha : (Go.part t xs off).run P w = .ok a w) (hb : (Go.part t ys off).run P w = .ok b w) (hr : (Op.equalIn d t a b).run P w = .ok r w) (hs : (Op.eqFields d xs ys fs).run P w = .ok s w) : (Op.eqFields d xs ys (f :: fs)).run P w = .ok (r && s) w := by
  simp only [Prod.mk.injEq] at hf
  obtain ⟨rfl, rfl, rfl⟩ := hf
  rw [Op.eqFields, if_pos hn]
  simp only [Sem.run_bind, ha, hb, hr, Result.andThen_ok]
  cases r with
  | false => simp
  | true => simpa using hs
theorem eqFields_nil {P : Program} {w : World} {d : Nat} {xs ys : Array Value} : (Op.eqFields d xs ys []).run P w = .ok true w := by
  rw [Op.eqFields, Sem.run_pure]
theorem run_equal_text {P : Program} {w : World} (d : Nat) (t : TypeId) (a b : List UInt8) (h : P.underlying t = some .string) : (Op.equalIn (d + 1) t (.string ⟨a.toArray⟩) (.string ⟨b.toArray⟩)).run P w = .ok (a == b) w := by
  rw [run_equalIn_string w d t _ _ h, ByteArray.toList_eq, ByteArray.toList_eq]
theorem fields4 {l : List Field} {a b c d : String × TypeId × Nat} (h : l.map (fun f => (f.name, f.type, f.offset)) = [a, b, c, d]) : ∃ f0 f1 f2 f3, l = [f0, f1, f2, f3] ∧ (f0.name, f0.type, f0.offset) = a ∧ (f1.name, f1.type, f1.offset) = b ∧ (f2.name, f2.type, f2.offset) = c ∧ (f3.name, f3.type, f3.offset) = d := by
  match l, h with
  | [f0, f1, f2, f3], h =>
    simp only [List.map_cons, List.map_nil, List.cons.injEq, and_true] at h
    exact ⟨f0, f1, f2, f3, rfl, h.1, h.2.1, h.2.2.1, h.2.2.2⟩
  | [], h => simp at h
  | [_], h => simp at h
  | [_, _], h => simp at h
  | [_, _, _], h => simp at h
  | _ :: _ :: _ :: _ :: _ :: _, h => simp at h
end Go.Proofs.YtpfhlhcnmeodbaaGreatDoor
namespace Go.Proofs.YtpfhlhcnmeodbaaGreatDoor
open Go.RowKit Go.BigFrame
theorem Tryz.sizeD : (Tryz.prog.info? 52).map (·.size) = some 35 := by kernel_rfl
def zeroD : DraftN := ⟨0, [], [], zeroI⟩
def placeD : Nat → Option (Nat × Nat) := fun i => (#[(0, 1), (1, 1), (2, 1), (3, 32)] : Array (Nat × Nat))[i]?
theorem draft_fill (parts : List (Nat × Value)) : Tryz.prog.built 52 parts = Instr.fill placeD (draftV zeroD) parts := by kernel_rfl
theorem built_draft0 : Tryz.prog.built 52 [] = some (draftV zeroD) := by rw [draft_fill]; rfl
theorem draftV_size {d : DraftN} (h : d.ref.length = 32) : (draftV d).size = 35 := draftL_len h
end Go.Proofs.YtpfhlhcnmeodbaaGreatDoor
namespace Go.Proofs.YtpfhlhcnmeodbaaGreatDoor
open Go.RowKit Go.BigFrame
theorem draft_fields : (Tryz.prog.fieldsOf 52).toList.map (fun f => (f.name, f.type, f.offset)) = [("Kind", 3, 0), ("Key", 9, 1), ("Value", 9, 2), ("Ref", 43, 3)] := by kernel_rfl
theorem draft_part (d : DraftN) (hd : d.ref.length = 32) (w : World) : (Go.part 3 (draftV d) 0).run Tryz.prog w = .ok (.int .i64 d.kind) w ∧ (Go.part 9 (draftV d) 1).run Tryz.prog w = .ok (.string ⟨d.key.toArray⟩) w ∧
    (Go.part 9 (draftV d) 2).run Tryz.prog w = .ok (.string ⟨d.val.toArray⟩) w ∧ (Go.part 43 (draftV d) 3).run Tryz.prog w = .ok (.agg (nums .u8 d.ref).toArray) w := by
  refine ⟨part_cell (by kernel_rfl) rfl, part_cell (by kernel_rfl) rfl, part_cell (by kernel_rfl) rfl, part_row (n := 32) (by kernel_rfl) (by kernel_rfl) ?_⟩
  apply Array.ext'
  rw [draftV, draftL, List.extract_toArray, List.toList_toArray, List.extract_eq_take_drop]
  simp only [List.drop_succ_cons, List.drop_zero]
  rw [List.take_of_length_le (by rw [nums_len, hd]; decide)]
def eqDB (a b : DraftN) : Bool := (a.kind == b.kind) && ((a.key == b.key) && ((a.val == b.val) && ((a.ref == b.ref) && true)))
theorem eqDB_eq (a b : DraftN) : eqDB a b = decide (a = b) := by
  obtain ⟨a1, a2, a3, a4⟩ := a
  obtain ⟨b1, b2, b3, b4⟩ := b
  simp only [eqDB, DraftN.mk.injEq]
  rw [Bool.eq_iff_iff]
  simp
theorem equal_draft (a b : DraftN) (ha : IdOk a.ref) (hb : IdOk b.ref) (w : World) :
    (Op.equalIn 10000 52 (.agg (draftV a)) (.agg (draftV b))).run Tryz.prog w = .ok (decide (a = b)) w := by
  have hs := run_equalIn_struct (P := Tryz.prog) w 9999 52 (draftV a) (draftV b) (by kernel_rfl) (by kernel_rfl)
  rw [show 9999 + 1 = 10000 from rfl] at hs
  rw [hs]
  obtain ⟨f0, f1, f2, f3, hf, h0, h1, h2, h3⟩ := fields4 draft_fields
  rw [hf]
  obtain ⟨p0, p1, p2, p3⟩ := draft_part a ha.1 w
  obtain ⟨q0, q1, q2, q3⟩ := draft_part b hb.1 w
  have e0 := run_equalIn_int (P := Tryz.prog) w 9998 3 .i64 .i64 a.kind b.kind Tryz.underlying3
  have e1 := run_equal_text (P := Tryz.prog) (w := w) 9998 9 a.key b.key Tryz.underlying9
  have e2 := run_equal_text (P := Tryz.prog) (w := w) 9998 9 a.val b.val Tryz.underlying9
  have e3 : (Op.equalIn 9999 43 (.agg (nums .u8 a.ref).toArray) (.agg (nums .u8 b.ref).toArray)).run Tryz.prog w = .ok (a.ref == b.ref) w := by
    rw [cells_txt ha.2, cells_txt hb.2, run_equalIn_bytes w 9997 43 5 32 Tryz.underlying43 Tryz.underlying5 Tryz.sizeOf5 (txt a.ref) (txt b.ref) (by rw [txt_len, ha.1]) (by rw [txt_len, hb.1]), txt_beq ha.2 hb.2]
  have h := eqFields_cons h0 (by decide) p0 q0 e0 (eqFields_cons h1 (by decide) p1 q1 e1 (eqFields_cons h2 (by decide) p2 q2 e2 (eqFields_cons h3 (by decide) p3 q3 e3 eqFields_nil)))
  rw [h, ← eqDB_eq]
  rfl
theorem eql_draft (a b : DraftN) (ha : IdOk a.ref) (hb : IdOk b.ref) (w : World) : (binOp .eql 52 (.agg (draftV a)) (.agg (draftV b))).run Tryz.prog w = .ok (.bool (decide (a = b))) w := by
  rw [run_eql_struct, equal_draft a b ha hb]
  rfl
theorem guard_draft (x y : Operand) (u v : Array Value) (w : World) : (eqGuard .eql 52 x y (.agg u) (.agg v)).run Tryz.prog w = .ok () w := run_eqGuard_agg w .eql 52 x y u v (by kernel_rfl)
end Go.Proofs.YtpfhlhcnmeodbaaGreatDoor
namespace Go.Proofs.YtpfhlhcnmeodbaaGreatDoor
open Go.RowKit
section
variable {α : Type}
def Wide (K : Nat) (L : List (List α)) : Prop := ∀ x ∈ L, x.length = K
theorem Wide.getD {K : Nat} {L : List (List α)} (h : Wide K L) {i : Nat} (hi : i < L.length) : (L.getD i []).length = K := by
  rw [List.getD_eq_getElem?_getD, List.getElem?_eq_getElem hi]
  exact h _ (List.getElem_mem hi)
theorem Wide.set {K : Nat} {L : List (List α)} (h : Wide K L) (i : Nat) {x : List α} (hx : x.length = K) : Wide K (L.set i x) := fun z hz => by
  rcases List.mem_or_eq_of_mem_set hz with hz | rfl
  · exact h z hz
  · exact hx
theorem flat_len {K : Nat} {L : List (List α)} (h : Wide K L) : L.flatten.length = L.length * K := by
  induction L with
  | nil => simp
  | cons x L ih =>
    have h1 := h x (by simp)
    have h2 := ih fun y hy => h y (by simp [hy])
    rw [List.flatten_cons, List.length_append, h1, h2, List.length_cons, Nat.succ_mul]
    omega
theorem flat_get {K : Nat} {L : List (List α)} (h : Wide K L) : ∀ {i j : Nat}, i < L.length → j < K → L.flatten[K * i + j]? = (L.getD i [])[j]? := by
  induction L with
  | nil => intro i j hi _; cases hi
  | cons x L ih =>
    intro i j hi hj
    have h1 := h x (by simp)
    rw [List.flatten_cons]
    cases i with
    | zero => rw [Nat.mul_zero, Nat.zero_add, List.getElem?_append_left (by omega)]; rfl
    | succ i =>
      have e : K * (i + 1) + j = x.length + (K * i + j) := by rw [h1, Nat.mul_succ]; omega
      rw [e, List.getElem?_append_right (by omega), Nat.add_sub_cancel_left]
      exact ih (fun y hy => h y (by simp [hy])) (by simpa using hi) hj
end
def layV (xs : List Value) : Nat → List Value → List Value
  | _, [] => xs
  | o, v :: r => layV (xs.set o v) (o + 1) r
theorem layV_get : ∀ (vs : List Value) (xs : List Value) (o j : Nat), o + vs.length ≤ xs.length → (layV xs o vs)[j]? = if o ≤ j ∧ j < o + vs.length then vs[j - o]? else xs[j]?
  | [], xs, o, j, _ => by rw [layV, if_neg (by simp only [List.length_nil]; omega)]
  | v :: r, xs, o, j, h => by
    simp only [List.length_cons] at h ⊢
    rw [layV, layV_get r (xs.set o v) (o + 1) j (by rw [List.length_set]; omega)]
    by_cases h1 : o + 1 ≤ j ∧ j < o + 1 + r.length
    · rw [if_pos h1, if_pos (by omega), show j - o = (j - (o + 1)) + 1 by omega, List.getElem?_cons_succ]
    · rw [if_neg h1]
      by_cases h2 : j = o
      · subst h2
        rw [if_pos (by omega), Nat.sub_self, List.getElem?_set_self (by omega)]
        rfl
      · rw [if_neg (by omega), List.getElem?_set_ne (by omega)]
theorem block_of {K q n : Nat} (hK : 0 < K) : ∃ i m, q = K * i + m ∧ m < K ∧ (q < n * K → i < n) := by
  refine ⟨q / K, q % K, (Nat.div_add_mod q K).symm, Nat.mod_lt _ hK, fun h => ?_⟩
  exact (Nat.div_lt_iff_lt_mul hK).2 h
theorem flat_set {K : Nat} (hK : 0 < K) {L : List (List Value)} (hL : Wide K L) {i : Nat} (hi : i < L.length) {x : List Value} (hx : x.length = K) : (L.set i x).flatten = layV L.flatten (K * i) x := by
  have hfl := flat_len hL
  have hS := hL.set i hx
  have hin : K * i + K ≤ L.length * K := by
    have : K * (i + 1) ≤ K * L.length := Nat.mul_le_mul_left K hi
    rw [Nat.mul_succ] at this
    rw [Nat.mul_comm L.length]
    exact this
  refine List.ext_getElem? fun q => ?_
  rw [layV_get _ _ _ _ (by rw [hx, hfl]; exact hin), hx]
  obtain ⟨r, m, rfl, hm, hr⟩ := block_of (K := K) (q := q) (n := L.length) hK
  by_cases hrl : r < L.length
  · rw [flat_get hS (by rw [List.length_set]; exact hrl) hm, flat_get hL hrl hm]
    by_cases hq : r = i
    · subst hq
      rw [if_pos ⟨by omega, by omega⟩, Nat.add_sub_cancel_left]
      simp [List.getD_eq_getElem?_getD, List.getElem?_set_self hi]
    · rw [if_neg (by
        intro h
        rcases Nat.lt_or_gt_of_ne hq with h1 | h1
        · have := Nat.mul_le_mul_left K h1
          rw [Nat.succ_eq_add_one, Nat.mul_succ] at this
          omega
        · have := Nat.mul_le_mul_left K h1
          rw [Nat.succ_eq_add_one, Nat.mul_succ] at this
          omega)]
      simp [List.getD_eq_getElem?_getD, List.getElem?_set_ne (Ne.symm hq)]
  · have hge : L.length * K ≤ K * r + m := by
      have := Nat.mul_le_mul_left K (Nat.le_of_not_lt hrl)
      rw [Nat.mul_comm L.length]
      omega
    have h1 : (L.set i x).flatten.length ≤ K * r + m := by rw [flat_len hS, List.length_set]; exact hge
    have h2 : L.flatten.length ≤ K * r + m := by rw [hfl]; exact hge
    rw [if_neg (by omega), List.getElem?_eq_none h1, List.getElem?_eq_none h2]
def RowK (K : Nat) (e : TypeId) (v : Value) (L : List (List Value)) (w : World) : Prop := w.ownsRow 0 e K v L.length L.flatten
section
variable {K : Nat} {e : TypeId} {v : Value} {L : List (List Value)} {w w' : World}
theorem RowK.form (h : RowK K e v L w) : ∃ ao cap, v = .slice ao L.length cap := by
  rcases h.2 with ⟨h1, h2⟩ | ⟨g, cap, _, h1, _⟩
  · exact ⟨_, _, by rw [h1, h2]⟩
  · exact ⟨_, _, h1⟩
theorem RowK.formB (h : RowK K e v L w) (h0 : 0 < L.length) : ∃ g cap, v = .slice (some ⟨g, 0, none⟩) L.length cap := by
  rcases h.2 with ⟨_, h2⟩ | ⟨g, cap, cur, h1, _⟩
  · omega
  · exact ⟨g, cap, h1⟩
theorem RowK.lt (h : RowK K e v L w) {g : Nat} (hg : v.ownBlock = some g) : g < w.heap.size := (World.ownsRow.lt h g hg).2
theorem RowK.heap (h : RowK K e v L w) {g : Nat} (hg : v.ownBlock = some g) : ∃ cur, w.heap[g]? = some (.cells cur e (0, 0)) := by
  rcases h.2 with ⟨h1, _⟩ | ⟨g', cap, cur, h1, _, h3, _⟩
  · rw [h1] at hg; cases hg
  · rw [h1] at hg
    obtain rfl : g' = g := by simpa [Value.ownBlock] using hg
    exact ⟨cur, h3⟩
theorem RowK.at {g n c i : Nat} (hn : n = L.length) (h : RowK K e (.slice (some ⟨g, 0, none⟩) n c) L w) (hL : Wide K L) (hi : i < L.length) : w.rangeAt g (K * i) (L.getD i []) := fun j u hj => by
  subst hn
  have hjl := (List.getElem?_eq_some_iff.1 hj).1
  rw [hL.getD hi] at hjl
  have hlt : K * i + j < L.length * K := by
    have := Nat.mul_le_mul_left K hi
    rw [Nat.succ_eq_add_one, Nat.mul_succ] at this
    rw [Nat.mul_comm L.length]
    omega
  rw [World.ownsRow.cellAt h _ hlt, flat_get hL hi hjl]
  exact hj
theorem RowK.notCells {t : TypeId} {cs : Array Value} {g : Nat} (h : RowK K e v L w) (hc : Cells g t cs w) (hne : e ≠ t) : v.ownBlock ≠ some g := fun hg => by
  obtain ⟨cur, hh⟩ := h.heap hg
  rw [hc] at hh
  simp only [Option.some.injEq, Obj.cells.injEq] at hh
  exact hne hh.2.1.symm
end
section
variable {P : Program} {o : Oper} {a : Act} {w : World} {K : Act → World → Prop} {Q : Exit → Act → World → Prop}
theorem run_alloc_of (ty : TypeId) (z : List Value) (hz : (P.info? ty).bind (·.zero) = some (.agg z.toArray)) (w : World) : (Instr.alloc ty true (.tuple #[])).run P w = .ok (.pointer (some ⟨w.heap.size, 0, none⟩)) (w.alloc (.cells z.toArray ty)) := by
  obtain ⟨i, hi, hzz⟩ := Option.bind_eq_some_iff.1 hz
  simp [Instr.alloc, zeroValue, typeInfo, hi, hzz, go_sem]
theorem wpList_alloc_of {ops : Array Oper} {rest : List Oper} (hgd : o.guard = none) (ty : TypeId) (ho : o.op = .alloc ty) (z : List Value) (hz : (P.info? ty).bind (·.zero) = some (.agg z.toArray))
    (h : wpList P ops Q rest (a.put o.dst (.pointer (some ⟨w.heap.size, 0, none⟩))) (w.alloc (.cells z.toArray ty))) : wpList P ops Q (o :: rest) a w :=
  wpList_plain hgd fun _ hK => (op_alloc ty ho z.toArray (run_alloc_of ty z hz) (hK _ _ h)).out
theorem run_build_wide (t e : TypeId) (us : List Value) (z : Value) (bytes size : Nat) (ht : P.underlying t = some (.slice e)) (hinfo : (P.info? e).map (fun i => (i.zero, i.size, i.bytes)) = some (some z, size, bytes)) (hs : us.length = size) (h0 : 0 < size) (hsm : size ≤ 100000) (w : World) :
    (Instr.buildSlice t 1 #[(0, .agg us.toArray)]).run P w = .ok (.slice (some ⟨w.heap.size, 0, none⟩) 1 1) (w.alloc (.cells us.toArray e)) := by
  obtain ⟨i, hi, hz0, hz1, _⟩ := info_parts hinfo
  refine run_buildSlice (P := P) w t e 1 #[(0, .agg us.toArray)] us.toArray i z ht hi hz0 (by rw [hz1]; omega) (by rw [hz1]; omega) ?_
  rw [hz1]
  have h1 := Great.fill_whole (s := size) h0 [Value.agg us.toArray] ((Array.range (1 * size)).map (z.cells[· % z.cells.size]!))
    (fun v hv => by obtain rfl := List.mem_singleton.1 hv; show us.toArray.size = size; rw [List.size_toArray, hs]) (by simp)
  have e1 : (#[(0, Value.agg us.toArray)] : Array (Nat × Value)).toList = ([Value.agg us.toArray].zipIdx 0).map fun x => (x.2, x.1) := by simp [List.zipIdx_cons]
  have e2 : ([Value.agg us.toArray].flatMap fun v => v.cells.toList).toArray = us.toArray := by
    rw [List.flatMap_cons, List.flatMap_nil, List.append_nil]
    rfl
  rw [e1, h1, e2]
theorem op_build_wide (t e : TypeId) (x : Operand) (ho : o.op = .buildSlice t 1 #[(0, x)]) (us : List Value) (hx : a.eval x = .agg us.toArray)
    (hr : ∀ w, (Instr.buildSlice t 1 #[(0, .agg us.toArray)]).run P w = .ok (.slice (some ⟨w.heap.size, 0, none⟩) 1 1) (w.alloc (.cells us.toArray e)))
    (h : K (a.put o.dst (.slice (some ⟨w.heap.size, 0, none⟩) 1 1)) (w.alloc (.cells us.toArray e))) : OpWp P o a w K Q := by
  refine ⟨?_⟩
  have e1 : ((#[(0, x)] : Array (Nat × Operand)).map fun (i, x) => (i, a.eval x)) = #[(0, .agg us.toArray)] := by simp [hx]
  unfold Oper.wp execOp
  simp only [ho, e1, Sem.run_bind, Sem.run_pure, hr, Result.andThen_ok]
  exact h
end
end Go.Proofs.YtpfhlhcnmeodbaaGreatDoor
namespace Go.Proofs.YtpfhlhcnmeodbaaGreatDoor
open Go.RowKit Go.BigFrame
def entT (e : EntN) : List Value := [.int .i64 e.mask, .string ⟨e.pay.toArray⟩, .string ⟨e.sig.toArray⟩]
def entL (e : EntN) : List Value := [.int .i64 e.kind] ++ (draftL e.d ++ ([.int .i64 e.src, .int .i64 e.seq] ++ (nums .u8 e.prev ++ entT e)))
def entV (e : EntN) : Array Value := (entL e).toArray
theorem entL_len {e : EntN} (h : e.Ok) : (entL e).length = 73 := by
  simp only [entL, entT, List.length_append, draftL_len h.ref.1, nums_len, h.prev.1, List.length_cons, List.length_nil]
theorem entL_one (e : EntN) : ∀ u ∈ entL e, u.oneCell' = true := fun u hu => by
  simp only [entL, entT, List.mem_append, List.mem_cons, List.not_mem_nil, or_false] at hu
  rcases hu with rfl | hu | (rfl | rfl) | hu | (rfl | rfl | rfl)
  · rfl
  · exact draftL_one _ u hu
  · rfl
  · rfl
  · exact nums_one _ _ u hu
  · rfl
  · rfl
  · rfl
theorem entV_all (e : EntN) : (entV e).all (·.oneCell') = true := by
  rw [entV, List.all_toArray]
  exact List.all_eq_true.2 (entL_one e)
theorem entV_size {e : EntN} (h : e.Ok) : (entV e).size = 73 := entL_len h
theorem Tryz.sizeE : (Tryz.prog.info? 54).map (·.size) = some 73 := by kernel_rfl
theorem sizeEV {e : EntN} (h : e.Ok) : (Tryz.prog.info? 54).map (·.size) = some (entV e).size := by rw [entV_size h]; exact Tryz.sizeE
theorem sizeEL {e : EntN} (h : e.Ok) : (Tryz.prog.info? 54).map (·.size) = some (entL e).length := by rw [entL_len h]; exact Tryz.sizeE
theorem rangeAt_app {b o : Nat} {L M : List Value} {w : World} (h : w.rangeAt b o (L ++ M)) : w.rangeAt b o L ∧ w.rangeAt b (o + L.length) M := by
  refine ⟨fun j v hj => h j v ?_, fun j v hj => ?_⟩
  · have hl := (List.getElem?_eq_some_iff.1 hj).1
    rw [List.getElem?_append_left hl]
    exact hj
  · have h1 := h (L.length + j) v (by rw [List.getElem?_append_right (by omega), Nat.add_sub_cancel_left]; exact hj)
    rw [← Nat.add_assoc] at h1
    exact h1
structure EntAt (b o : Nat) (e : EntN) (w : World) : Prop where
  kind : w.cell? ⟨b, o, none⟩ = some (.int .i64 e.kind)
  draft : w.rangeAt b (o + 1) (draftL e.d)
  src : w.cell? ⟨b, o + 36, none⟩ = some (.int .i64 e.src)
  seq : w.cell? ⟨b, o + 37, none⟩ = some (.int .i64 e.seq)
  prev : w.rangeAt b (o + 38) (nums .u8 e.prev)
  mask : w.cell? ⟨b, o + 70, none⟩ = some (.int .i64 e.mask)
  pay : w.cell? ⟨b, o + 71, none⟩ = some (.string ⟨e.pay.toArray⟩)
  sig : w.cell? ⟨b, o + 72, none⟩ = some (.string ⟨e.sig.toArray⟩)
theorem ent_at {b o : Nat} {e : EntN} {w : World} (hok : e.Ok) (h : w.rangeAt b o (entL e)) : EntAt b o e w := by
  have hd := draftL_len hok.ref.1
  have hp := hok.prev.1
  obtain ⟨h0, h⟩ := rangeAt_app h
  obtain ⟨h1, h⟩ := rangeAt_app h
  obtain ⟨h2, h⟩ := rangeAt_app h
  obtain ⟨h3, h⟩ := rangeAt_app h
  simp only [List.length_cons, List.length_nil, hd, nums_len, hp, Nat.zero_add, Nat.reduceAdd, Nat.add_assoc] at h1 h2 h3 h
  exact ⟨h0 0 _ rfl, h1, h2 0 _ rfl, h2 1 _ rfl, h3, h 0 _ rfl, h 1 _ rfl, h 2 _ rfl⟩
theorem ent_range {g : Nat} {t : TypeId} {e : EntN} {w : World} (h : Cells g t (entV e) w) : w.rangeAt g 0 (entL e) := fun j v hj => by
  rw [Nat.zero_add, h.at, entV, List.getElem?_toArray]
  exact hj
theorem ent_cells {g : Nat} {t : TypeId} {e : EntN} {w : World} (hok : e.Ok) (h : Cells g t (entV e) w) :
    w.cell? ⟨g, 0, none⟩ = some (.int .i64 e.kind) ∧ w.rangeAt g 1 (draftL e.d) ∧ w.cell? ⟨g, 36, none⟩ = some (.int .i64 e.src) ∧ w.cell? ⟨g, 37, none⟩ = some (.int .i64 e.seq) ∧ w.rangeAt g 38 (nums .u8 e.prev) ∧
    w.cell? ⟨g, 70, none⟩ = some (.int .i64 e.mask) ∧ w.cell? ⟨g, 71, none⟩ = some (.string ⟨e.pay.toArray⟩) ∧ w.cell? ⟨g, 72, none⟩ = some (.string ⟨e.sig.toArray⟩) := by
  have k := ent_at hok (ent_range h)
  have h1 := k.draft
  have h3 := k.src
  have h4 := k.seq
  have h5 := k.prev
  have h6 := k.mask
  have h7 := k.pay
  have h8 := k.sig
  simp only [Nat.zero_add] at h1 h3 h4 h5 h6 h7 h8
  exact ⟨k.kind, h1, h3, h4, h5, h6, h7, h8⟩
theorem draft_mid {g o : Nat} {d : DraftN} {w : World} (h : w.rangeAt g o (draftL d)) : w.cell? ⟨g, o, none⟩ = some (.int .i64 d.kind) ∧ w.cell? ⟨g, o + 1, none⟩ = some (.string ⟨d.key.toArray⟩) ∧ w.cell? ⟨g, o + 2, none⟩ = some (.string ⟨d.val.toArray⟩) ∧ w.rangeAt g (o + 3) (nums .u8 d.ref) := by
  refine ⟨h 0 _ rfl, h 1 _ rfl, h 2 _ rfl, fun j v hj => ?_⟩
  have h1 := h (j + 3) v (by
    rw [draftL, List.getElem?_cons_succ, List.getElem?_cons_succ, List.getElem?_cons_succ]
    exact hj)
  rw [show o + (j + 3) = o + 3 + j by omega] at h1
  exact h1
def placeE : Nat → Option (Nat × Nat) := fun i => (#[(0, 1), (1, 35), (36, 1), (37, 1), (38, 32), (70, 1), (71, 1), (72, 1)] : Array (Nat × Nat))[i]?
theorem ent_fill (parts : List (Nat × Value)) : Tryz.prog.built 54 parts = Instr.fill placeE (entV noE) parts := by kernel_rfl
theorem built_ent0 : Tryz.prog.built 54 [] = some (entV noE) := by rw [ent_fill]; rfl
theorem fill_ent (i off size : Nat) (v : Value) (rest : List (Nat × Value)) (a b : EntN) (xs ys zs vs : List Value) (hp : placeE i = some (off, size)) (ha : entL a = xs ++ (ys ++ zs)) (hb : entL b = xs ++ (vs ++ zs)) (hv : v.cells.toList = vs) (h1 : vs.length = size) (h2 : ys.length = size) (h3 : xs.length = off) :
    Instr.fill placeE (entV a) ((i, v) :: rest) = Instr.fill placeE (entV b) rest := by
  rw [entV, entV, ha, hb]
  exact fill_lay placeE i off size v rest xs ys zs vs hp hv h1 h2 h3
section
variable (a : EntN) (rest : List (Nat × Value))
theorem fill_kind (k : Int) : Instr.fill placeE (entV a) ((0, .int .i64 k) :: rest) = Instr.fill placeE (entV { a with kind := k }) rest :=
  fill_ent 0 0 1 _ rest a { a with kind := k } [] [.int .i64 a.kind] _ [.int .i64 k] rfl rfl rfl rfl rfl rfl rfl
theorem fill_draft (ha : a.Ok) (d : DraftN) (hd : IdOk d.ref) : Instr.fill placeE (entV a) ((1, .agg (draftV d)) :: rest) = Instr.fill placeE (entV { a with d := d }) rest :=
  fill_ent 1 1 35 _ rest a { a with d := d } [.int .i64 a.kind] (draftL a.d) _ (draftL d) rfl rfl rfl rfl (draftL_len hd.1) (draftL_len ha.ref.1) rfl
theorem fill_mask (ha : a.Ok) (k : Int) : Instr.fill placeE (entV a) ((5, .int .i64 k) :: rest) = Instr.fill placeE (entV { a with mask := k }) rest :=
  fill_ent 5 70 1 _ rest a { a with mask := k } ([.int .i64 a.kind] ++ (draftL a.d ++ ([.int .i64 a.src, .int .i64 a.seq] ++ nums .u8 a.prev))) [.int .i64 a.mask] [.string ⟨a.pay.toArray⟩, .string ⟨a.sig.toArray⟩] [.int .i64 k] rfl (by simp [entL, entT]) (by simp [entL, entT]) rfl rfl rfl (by simp [draftL_len ha.ref.1, nums_len, ha.prev.1])
theorem fill_pay (ha : a.Ok) (s : List UInt8) : Instr.fill placeE (entV a) ((6, .string ⟨s.toArray⟩) :: rest) = Instr.fill placeE (entV { a with pay := s }) rest :=
  fill_ent 6 71 1 _ rest a { a with pay := s } ([.int .i64 a.kind] ++ (draftL a.d ++ ([.int .i64 a.src, .int .i64 a.seq] ++ (nums .u8 a.prev ++ [.int .i64 a.mask])))) [.string ⟨a.pay.toArray⟩] [.string ⟨a.sig.toArray⟩] [.string ⟨s.toArray⟩] rfl (by simp [entL, entT]) (by simp [entL, entT]) rfl rfl rfl (by simp [draftL_len ha.ref.1, nums_len, ha.prev.1])
end
def outE (m : Int) (p : List UInt8) : EntN := ⟨3, noD, 0, 0, zeroI, m, p, []⟩
theorem outE_ok (m : Int) (p : List UInt8) : (outE m p).Ok := ⟨zeroI_ok, zeroI_ok⟩
theorem built_out (m : Int) (p : List UInt8) : Tryz.prog.built 54 [(0, .int .i64 3), (5, .int .i64 m), (6, .string ⟨p.toArray⟩)] = some (entV (outE m p)) := by
  rw [ent_fill, fill_kind, fill_mask _ _ ⟨zeroI_ok, zeroI_ok⟩, fill_pay _ _ ⟨zeroI_ok, zeroI_ok⟩, fill_end]
  rfl
theorem ent_fields : (Tryz.prog.fieldsOf 54).toList.map (fun f => (f.name, f.type, f.offset)) = [("Kind", 3, 0), ("Draft", 52, 1), ("From", 3, 36), ("Seq", 3, 37), ("Prev", 43, 38), ("Mask", 3, 70), ("Payload", 9, 71), ("Sig", 9, 72)] := by kernel_rfl
theorem fields8 {l : List Field} {a b c d e f g h : String × TypeId × Nat} (hl : l.map (fun f => (f.name, f.type, f.offset)) = [a, b, c, d, e, f, g, h]) : ∃ f0 f1 f2 f3 f4 f5 f6 f7, l = [f0, f1, f2, f3, f4, f5, f6, f7] ∧ (f0.name, f0.type, f0.offset) = a ∧ (f1.name, f1.type, f1.offset) = b ∧ (f2.name, f2.type, f2.offset) = c ∧ (f3.name, f3.type, f3.offset) = d ∧ (f4.name, f4.type, f4.offset) = e ∧ (f5.name, f5.type, f5.offset) = f ∧ (f6.name, f6.type, f6.offset) = g ∧ (f7.name, f7.type, f7.offset) = h := by
  have hn := congrArg List.length hl
  rw [List.length_map] at hn
  simp only [List.length_cons, List.length_nil] at hn
  match l, hn with
  | [f0, f1, f2, f3, f4, f5, f6, f7], _ =>
    simp only [List.map_cons, List.map_nil, List.cons.injEq, and_true] at hl
    exact ⟨f0, f1, f2, f3, f4, f5, f6, f7, rfl, hl⟩
theorem ext_mid (xs ys zs : List Value) (n m : Nat) (h1 : xs.length = n) (h2 : ys.length = m) : (xs ++ (ys ++ zs)).toArray.extract n (n + m) = ys.toArray := by
  apply Array.ext'
  rw [List.extract_toArray, List.toList_toArray, List.extract_eq_take_drop, ← h1, List.drop_left, ← h2, Nat.add_sub_cancel_left, List.take_left]
theorem get_mid (xs : List Value) (y : Value) (zs : List Value) (n : Nat) (h1 : xs.length = n) : (xs ++ (y :: zs)).toArray[n]? = some y := by
  rw [List.getElem?_toArray, List.getElem?_append_right (by omega), h1, Nat.sub_self]
  rfl
theorem ent_part (e : EntN) (he : e.Ok) (w : World) : (Go.part 3 (entV e) 0).run Tryz.prog w = .ok (.int .i64 e.kind) w ∧ (Go.part 52 (entV e) 1).run Tryz.prog w = .ok (.agg (draftV e.d)) w ∧
    (Go.part 3 (entV e) 36).run Tryz.prog w = .ok (.int .i64 e.src) w ∧ (Go.part 3 (entV e) 37).run Tryz.prog w = .ok (.int .i64 e.seq) w ∧ (Go.part 43 (entV e) 38).run Tryz.prog w = .ok (.agg (nums .u8 e.prev).toArray) w ∧
    (Go.part 3 (entV e) 70).run Tryz.prog w = .ok (.int .i64 e.mask) w ∧ (Go.part 9 (entV e) 71).run Tryz.prog w = .ok (.string ⟨e.pay.toArray⟩) w ∧ (Go.part 9 (entV e) 72).run Tryz.prog w = .ok (.string ⟨e.sig.toArray⟩) w := by
  have hd := draftL_len he.ref.1
  have hp := he.prev.1
  refine ⟨part_cell (by kernel_rfl) rfl, part_row (n := 35) (by kernel_rfl) (by kernel_rfl) (ext_mid [.int .i64 e.kind] (draftL e.d) _ 1 35 rfl hd), part_cell (by kernel_rfl) ?_, part_cell (by kernel_rfl) ?_, part_row (n := 32) (by kernel_rfl) (by kernel_rfl) ?_, part_cell (by kernel_rfl) ?_, part_cell (by kernel_rfl) ?_, part_cell (by kernel_rfl) ?_⟩
  · have h := get_mid ([.int .i64 e.kind] ++ draftL e.d) (.int .i64 e.src) ([.int .i64 e.seq] ++ (nums .u8 e.prev ++ entT e)) 36 (by simp [hd])
    rw [← h]
    simp [entV, entL]
  · have h := get_mid ([.int .i64 e.kind] ++ (draftL e.d ++ [.int .i64 e.src])) (.int .i64 e.seq) (nums .u8 e.prev ++ entT e) 37 (by simp [hd])
    rw [← h]
    simp [entV, entL]
  · have h := ext_mid ([.int .i64 e.kind] ++ (draftL e.d ++ [.int .i64 e.src, .int .i64 e.seq])) (nums .u8 e.prev) (entT e) 38 32 (by simp [hd]) (by rw [nums_len, hp])
    rw [← h]
    simp [entV, entL]
  · have h := get_mid ([.int .i64 e.kind] ++ (draftL e.d ++ ([.int .i64 e.src, .int .i64 e.seq] ++ nums .u8 e.prev))) (.int .i64 e.mask) [.string ⟨e.pay.toArray⟩, .string ⟨e.sig.toArray⟩] 70 (by simp [hd, nums_len, hp])
    rw [← h]
    simp [entV, entL, entT]
  · have h := get_mid ([.int .i64 e.kind] ++ (draftL e.d ++ ([.int .i64 e.src, .int .i64 e.seq] ++ (nums .u8 e.prev ++ [.int .i64 e.mask])))) (.string ⟨e.pay.toArray⟩) [.string ⟨e.sig.toArray⟩] 71 (by simp [hd, nums_len, hp])
    rw [← h]
    simp [entV, entL, entT]
  · have h := get_mid ([.int .i64 e.kind] ++ (draftL e.d ++ ([.int .i64 e.src, .int .i64 e.seq] ++ (nums .u8 e.prev ++ [.int .i64 e.mask, .string ⟨e.pay.toArray⟩])))) (.string ⟨e.sig.toArray⟩) [] 72 (by simp [hd, nums_len, hp])
    rw [← h]
    simp [entV, entL, entT]
theorem equal_draft_at (k : Nat) (a b : DraftN) (ha : IdOk a.ref) (hb : IdOk b.ref) (w : World) :
    (Op.equalIn (k + 3) 52 (.agg (draftV a)) (.agg (draftV b))).run Tryz.prog w = .ok (decide (a = b)) w := by
  have hs := run_equalIn_struct (P := Tryz.prog) w (k + 2) 52 (draftV a) (draftV b) (by kernel_rfl) (by kernel_rfl)
  rw [show k + 2 + 1 = k + 3 from rfl] at hs
  rw [hs]
  obtain ⟨f0, f1, f2, f3, hf, h0, h1, h2, h3⟩ := fields4 draft_fields
  rw [hf]
  obtain ⟨p0, p1, p2, p3⟩ := draft_part a ha.1 w
  obtain ⟨q0, q1, q2, q3⟩ := draft_part b hb.1 w
  have e0 := run_equalIn_int (P := Tryz.prog) w (k + 1) 3 .i64 .i64 a.kind b.kind Tryz.underlying3
  have e1 := run_equal_text (P := Tryz.prog) (w := w) (k + 1) 9 a.key b.key Tryz.underlying9
  have e2 := run_equal_text (P := Tryz.prog) (w := w) (k + 1) 9 a.val b.val Tryz.underlying9
  have e3 : (Op.equalIn (k + 2) 43 (.agg (nums .u8 a.ref).toArray) (.agg (nums .u8 b.ref).toArray)).run Tryz.prog w = .ok (a.ref == b.ref) w := by
    rw [cells_txt ha.2, cells_txt hb.2, run_equalIn_bytes w k 43 5 32 Tryz.underlying43 Tryz.underlying5 Tryz.sizeOf5 (txt a.ref) (txt b.ref) (by rw [txt_len, ha.1]) (by rw [txt_len, hb.1]), txt_beq ha.2 hb.2]
  have h := eqFields_cons h0 (by decide) p0 q0 e0 (eqFields_cons h1 (by decide) p1 q1 e1 (eqFields_cons h2 (by decide) p2 q2 e2 (eqFields_cons h3 (by decide) p3 q3 e3 eqFields_nil)))
  rw [h, ← eqDB_eq]
  rfl
def eqEB (a b : EntN) : Bool := (a.kind == b.kind) && (decide (a.d = b.d) && ((a.src == b.src) && ((a.seq == b.seq) && ((a.prev == b.prev) && ((a.mask == b.mask) && ((a.pay == b.pay) && ((a.sig == b.sig) && true)))))))
theorem eqEB_eq (a b : EntN) : eqEB a b = decide (a = b) := by
  obtain ⟨a1, a2, a3, a4, a5, a6, a7, a8⟩ := a
  obtain ⟨b1, b2, b3, b4, b5, b6, b7, b8⟩ := b
  simp only [eqEB, EntN.mk.injEq]
  rw [Bool.eq_iff_iff]
  simp
theorem equal_ent (a b : EntN) (ha : a.Ok) (hb : b.Ok) (w : World) :
    (Op.equalIn 10000 54 (.agg (entV a)) (.agg (entV b))).run Tryz.prog w = .ok (decide (a = b)) w := by
  have hs := run_equalIn_struct (P := Tryz.prog) w 9999 54 (entV a) (entV b) (by kernel_rfl) (by kernel_rfl)
  rw [show 9999 + 1 = 10000 from rfl] at hs
  rw [hs]
  obtain ⟨f0, f1, f2, f3, f4, f5, f6, f7, hf, h0, h1, h2, h3, h4, h5, h6, h7⟩ := fields8 ent_fields
  rw [hf]
  obtain ⟨p0, p1, p2, p3, p4, p5, p6, p7⟩ := ent_part a ha w
  obtain ⟨q0, q1, q2, q3, q4, q5, q6, q7⟩ := ent_part b hb w
  have e0 := run_equalIn_int (P := Tryz.prog) w 9998 3 .i64 .i64 a.kind b.kind Tryz.underlying3
  have e1 := equal_draft_at 9996 a.d b.d ha.ref hb.ref w
  have e2 := run_equalIn_int (P := Tryz.prog) w 9998 3 .i64 .i64 a.src b.src Tryz.underlying3
  have e3 := run_equalIn_int (P := Tryz.prog) w 9998 3 .i64 .i64 a.seq b.seq Tryz.underlying3
  have e4 : (Op.equalIn 9999 43 (.agg (nums .u8 a.prev).toArray) (.agg (nums .u8 b.prev).toArray)).run Tryz.prog w = .ok (a.prev == b.prev) w := by
    rw [cells_txt ha.prev.2, cells_txt hb.prev.2, run_equalIn_bytes w 9997 43 5 32 Tryz.underlying43 Tryz.underlying5 Tryz.sizeOf5 (txt a.prev) (txt b.prev) (by rw [txt_len, ha.prev.1]) (by rw [txt_len, hb.prev.1]), txt_beq ha.prev.2 hb.prev.2]
  have e5 := run_equalIn_int (P := Tryz.prog) w 9998 3 .i64 .i64 a.mask b.mask Tryz.underlying3
  have e6 := run_equal_text (P := Tryz.prog) (w := w) 9998 9 a.pay b.pay Tryz.underlying9
  have e7 := run_equal_text (P := Tryz.prog) (w := w) 9998 9 a.sig b.sig Tryz.underlying9
  have h := eqFields_cons h0 (by decide) p0 q0 e0 (eqFields_cons h1 (by decide) p1 q1 e1 (eqFields_cons h2 (by decide) p2 q2 e2 (eqFields_cons h3 (by decide) p3 q3 e3 (eqFields_cons h4 (by decide) p4 q4 e4 (eqFields_cons h5 (by decide) p5 q5 e5 (eqFields_cons h6 (by decide) p6 q6 e6 (eqFields_cons h7 (by decide) p7 q7 e7 eqFields_nil)))))))
  rw [h, ← eqEB_eq]
  rfl
theorem eql_ent (a b : EntN) (ha : a.Ok) (hb : b.Ok) (w : World) : (binOp .eql 54 (.agg (entV a)) (.agg (entV b))).run Tryz.prog w = .ok (.bool (decide (a = b))) w := by
  rw [run_eql_struct, equal_ent a b ha hb]
  rfl
theorem neq_ent (a b : EntN) (ha : a.Ok) (hb : b.Ok) (w : World) : (binOp .neq 54 (.agg (entV a)) (.agg (entV b))).run Tryz.prog w = .ok (.bool (!decide (a = b))) w := by
  rw [run_neq_struct, equal_ent a b ha hb]
  rfl
theorem guard_ent (op : BinOp) (hop : op = .eql ∨ op = .neq) (x y : Operand) (u v : Array Value) (w : World) : (eqGuard op 54 x y (.agg u) (.agg v)).run Tryz.prog w = .ok () w := by
  rcases hop with rfl | rfl
  · exact run_eqGuard_agg w .eql 54 x y u v (by kernel_rfl)
  · exact run_eqGuard_agg w .neq 54 x y u v (by kernel_rfl)
section
variable (a : EntN) (ha : a.Ok)
include ha
omit ha in
end
theorem Cells.there {g o n : Nat} {t : TypeId} {cs : Array Value} {w : World} (h : Cells g t cs w) (hn : o + n ≤ cs.size) : w.there g o n := fun j hj => by
  rw [h.at, Array.getElem?_eq_getElem (by omega)]
  exact ⟨rfl, h.frozen _⟩
structure EntN.Len (e : EntN) : Prop where
  ok : e.Ok
  key : e.d.key.length ≤ 140737488351232
  val : e.d.val.length ≤ 140737488351232
  pay : e.pay.length ≤ 140737488351232
  sig : e.sig.length ≤ 140737488351232
end Go.Proofs.YtpfhlhcnmeodbaaGreatDoor
namespace Go.Proofs.YtpfhlhcnmeodbaaGreatDoor
open Go.ChangeShapes Go.WideShapes Go.ChangeAt Go.RowKit
theorem law_own : ownKnob Tryz.prog.godebug = none := by kernel_rfl
theorem law_laidOut : laidOutB Tryz.prog = true := by kernel_rfl
theorem lt_of_cell {w : World} {a : Addr} {v : Value} (h : w.cell? a = some v) : a.block < w.heap.size := by
  rcases Nat.lt_or_ge a.block w.heap.size with h' | h'
  · exact h'
  · simp [World.cell?, Array.getElem?_eq_none h'] at h
end Go.Proofs.YtpfhlhcnmeodbaaGreatDoor
namespace Go.Proofs.YtpfhlhcnmeodbaaGreatDoor
open Go.RowKit Go.BigFrame Go.ChangeShapes Go.WideShapes Go.Deep
def RAt (K : Nat) (ao : Option Addr) (C : List (List Value)) (w : World) : Prop :=
  C = [] ∨ ∃ b o, ao = some ⟨b, o, none⟩ ∧ b < w.heap.size ∧ ∀ (i : Nat) (c : List Value), C[i]? = some c → w.rangeAt b (o + i * K) c
theorem RAt.below {K : Nat} {ao : Option Addr} {C : List (List Value)} {w w' : World} (h : RAt K ao C w) (hb : Below w.heap.size w w') : RAt K ao C w' := by
  rcases h with h | ⟨b, o, h1, h2, h3⟩
  · exact .inl h
  · exact .inr ⟨b, o, h1, Nat.lt_of_lt_of_le h2 hb.size, fun i c hc j v hv => (hb.cell (p := ⟨b, o + i * K + j, none⟩) h2).trans (h3 i c hc j v hv)⟩
theorem RAt.get {K : Nat} {ao : Option Addr} {C : List (List Value)} {w : World} (h : RAt K ao C w) {i : Nat} {c : List Value} (hc : C[i]? = some c) : ∃ b o, ao = some ⟨b, o, none⟩ ∧ b < w.heap.size ∧ w.rangeAt b (o + i * K) c := by
  rcases h with rfl | ⟨b, o, h1, h2, h3⟩
  · cases hc
  · exact ⟨b, o, h1, h2, h3 i c hc⟩
theorem RAt.getM {α : Type} {K : Nat} {f : α → List Value} {ao : Option Addr} {L : List α} {w : World} (h : RAt K ao (L.map f) w) {i : Nat} {x : α} (hx : L[i]? = some x) : ∃ b o, ao = some ⟨b, o, none⟩ ∧ b < w.heap.size ∧ w.rangeAt b (o + i * K) (f x) :=
  h.get (by rw [List.getElem?_map, hx]; rfl)
theorem RowK.rat {K : Nat} {e : TypeId} {ao : Option Addr} {n c : Nat} {C : List (List Value)} {w : World} (h : RowK K e (.slice ao n c) C w) (hW : Wide K C) : RAt K ao C w := by
  by_cases h0 : C = []
  · exact .inl h0
  · obtain ⟨g, cap, hv⟩ := h.formB (List.length_pos_iff.2 h0)
    simp only [Value.slice.injEq] at hv
    obtain ⟨rfl, rfl, rfl⟩ := hv
    have hl := h.lt (g := g) rfl
    refine .inr ⟨g, 0, rfl, hl, fun i c hc => ?_⟩
    obtain ⟨hi, rfl⟩ := List.getElem?_eq_some_iff.1 hc
    have h1 := RowK.at rfl h hW hi
    rw [List.getD_eq_getElem?_getD, List.getElem?_eq_getElem hi] at h1
    rw [Nat.zero_add, Nat.mul_comm]
    exact h1
theorem wide_map {α : Type} {K : Nat} {f : α → List Value} {L : List α} (h : ∀ x ∈ L, (f x).length = K) : Wide K (L.map f) := fun c hc => by
  obtain ⟨x, hx, rfl⟩ := List.mem_map.1 hc
  exact h x hx
theorem weights_mem_rows {H : Type} {P : Program} {e : TypeId} : ∀ (l : List (DataW H)) (d : DataW H), d ∈ l → ∀ n ∈ DataW.weights P e d, n ∈ DataW.weightsAll P e l
  | [], _, h, _, _ => by cases h
  | x :: l, d, h, n, hn => by
    simp only [DataW.weightsAll, List.mem_append]
    rcases List.mem_cons.1 h with rfl | h
    · exact .inl hn
    · exact .inr (weights_mem_rows l d h n hn)
set_option maxRecDepth 100000 in
theorem open_row_cells {α : Type} {H : Type} {enc : TypeId × Value → H} {P : Program} {W : World} {fuel : Nat} {cs : List Value} {xx : DataW H × List MemPlace} (T e : TypeId) (K : Nat) (f : α → List Value) (G : α → Prop) (z : α)
    (hT : P.underlying T = some (.slice e)) (hK : P.cellsOf e = K) (hK0 : 0 < K) (hB : 1 ≤ P.bytesOf e) (hf : ∀ y, G y → (f y).length = K)
    (hop : ∀ n cs x, DataW.trod enc P W 0 (fun _ => true) true n e cs = some x → (∀ n ∈ DataW.weights P e x.1, n ≤ 140737488351232) → ∃ y, cs = f y ∧ G y)
    (hff : DataW.trod enc P W 0 (fun _ => true) true fuel T cs = some xx) (hwt : ∀ n ∈ DataW.weights P T xx.1, n ≤ 140737488351232) :
    ∃ (ao : Option Addr) (L : List α) (cap : Nat), cs = [.slice ao L.length cap] ∧ RAt K ao (L.map f) W ∧ (∀ x ∈ L, G x) ∧ L.length ≤ 140737488351232 ∧ L.length ≤ cap := by
  rcases Deep.open_slice hT hff with ⟨hcs, _⟩ | ⟨x, len0, cap, m, n, D, Pl, hcs, _, hl, hm, hmm, hx, hi⟩
  · exact ⟨none, [], 0, hcs, .inl rfl, (fun x hx => by cases hx), Nat.zero_le _, Nat.le_refl _⟩
  · simp only [if_true] at hmm
    subst hmm
    rw [hK] at hi
    have hd : xx.1 = .slice ((List.range len0).map D) ((List.range (m - len0)).map fun j => D (len0 + j)) := congrArg Prod.fst hx
    rw [hd] at hwt
    simp only [DataW.weights, hT] at hwt
    have hwn := hwt _ (List.mem_cons_self ..)
    simp only [List.length_map, List.length_range] at hwn
    have hwl : len0 ≤ 140737488351232 := by
      have h1 := Nat.le_mul_of_pos_right len0 hB
      have h2 : len0 + (m - len0) = m := by omega
      rw [h2] at hwn
      have h3 : m * 1 ≤ m * P.bytesOf e := Nat.mul_le_mul_left m hB
      omega
    have hE : ∀ i, i < len0 → ∃ y : α, G y ∧ ∀ j u, (f y)[j]? = some u → W.cell? ((x.add (i * K)).add j) = some u := by
      intro i him
      obtain ⟨cs', hc, htr⟩ := hi i (by omega)
      obtain ⟨_, hcl, hat⟩ := World.cells?_some hc
      obtain ⟨y, rfl, hok⟩ := hop _ _ _ htr (fun q hq => hwt q (List.mem_cons_of_mem _ (List.mem_append_left _ (weights_mem_rows _ (D i) (List.mem_map.2 ⟨i, List.mem_range.2 him, rfl⟩) q hq))))
      refine ⟨y, hok, fun j u hj => ?_⟩
      have hj4 : j < K := by
        have := (List.getElem?_eq_some_iff.1 hj).1
        rw [hf y hok] at this
        exact this
      rw [hat j hj4]
      exact hj
    let F : Nat → α := fun i => if h : i < len0 then (hE i h).choose else z
    have hF : ∀ i, i < len0 → G (F i) ∧ ∀ j u, (f (F i))[j]? = some u → W.cell? ((x.add (i * K)).add j) = some u := by
      intro i him
      simp only [F, dif_pos him]
      exact (hE i him).choose_spec
    have hlen : ((List.range len0).map F).length = len0 := by simp
    refine ⟨some x, (List.range len0).map F, m, by rw [hlen, hcs], ?_, ?_, by rw [hlen]; exact hwl, by rw [hlen]; exact hl⟩
    · by_cases h0 : len0 = 0
      · subst h0; exact .inl rfl
      · obtain ⟨g0, h01⟩ := hF 0 (by omega)
        obtain ⟨u0, hu0⟩ : ∃ u, (f (F 0))[0]? = some u := ⟨_, List.getElem?_eq_getElem (by rw [hf _ g0]; exact hK0)⟩
        have h1 := h01 0 _ hu0
        obtain ⟨b, o, spot⟩ := x
        have hspot : spot = none := by simpa [Addr.add] using World.cell?_spot h1
        subst hspot
        refine .inr ⟨b, o, rfl, ?_, fun i c hc => ?_⟩
        · have := lt_of_cell h1
          simpa [Addr.add] using this
        · have hi3 : i < len0 := by have := (List.getElem?_eq_some_iff.1 hc).1; simpa using this
          simp only [List.getElem?_map, List.getElem?_range hi3, Option.map_some, Option.some.injEq] at hc
          subst hc
          obtain ⟨_, g2⟩ := hF i hi3
          refine fun j u hj => ?_
          have := g2 j u hj
          rw [Addr.add_mid, Addr.add_mid] at this
          exact this
    · intro q hq
      obtain ⟨i, hi2, rfl⟩ := List.mem_map.1 hq
      exact (hF i (List.mem_range.1 hi2)).1
set_option maxRecDepth 100000 in
theorem open_row_nil {α : Type} {H : Type} {enc : TypeId × Value → H} {P : Program} {W : World} {fuel : Nat} {cs : List Value} {xx : DataW H × List MemPlace} (T e : TypeId) (K : Nat) (f : α → List Value) (G : α → Prop) (z : α)
    (hT : P.underlying T = some (.slice e)) (hK : P.cellsOf e = K) (hK0 : 0 < K) (hB : 1 ≤ P.bytesOf e) (hf : ∀ y, G y → (f y).length = K)
    (hop : ∀ n cs x, DataW.trod enc P W 0 (fun _ => true) true n e cs = some x → (∀ n ∈ DataW.weights P e x.1, n ≤ 140737488351232) → ∃ y, cs = f y ∧ G y)
    (hff : DataW.trod enc P W 0 (fun _ => true) true fuel T cs = some xx) (hwt : ∀ n ∈ DataW.weights P T xx.1, n ≤ 140737488351232) :
    ∃ (ao : Option Addr) (L : List α) (cap : Nat), cs = [.slice ao L.length cap] ∧ RAt K ao (L.map f) W ∧ (∀ x ∈ L, G x) ∧ L.length ≤ 140737488351232 ∧ L.length ≤ cap ∧ (ao = none → cap = 0) := by
  rcases Deep.open_slice hT hff with ⟨hcs, _⟩ | ⟨x, len0, cap, m, n, D, Pl, hcs, _, hl, hm, hmm, hx, hi⟩
  · exact ⟨none, [], 0, hcs, .inl rfl, (fun x hx => by cases hx), Nat.zero_le _, Nat.le_refl _, fun _ => rfl⟩
  · simp only [if_true] at hmm
    subst hmm
    rw [hK] at hi
    have hd : xx.1 = .slice ((List.range len0).map D) ((List.range (m - len0)).map fun j => D (len0 + j)) := congrArg Prod.fst hx
    rw [hd] at hwt
    simp only [DataW.weights, hT] at hwt
    have hwn := hwt _ (List.mem_cons_self ..)
    simp only [List.length_map, List.length_range] at hwn
    have hwl : len0 ≤ 140737488351232 := by
      have h1 := Nat.le_mul_of_pos_right len0 hB
      have h2 : len0 + (m - len0) = m := by omega
      rw [h2] at hwn
      have h3 : m * 1 ≤ m * P.bytesOf e := Nat.mul_le_mul_left m hB
      omega
    have hE : ∀ i, i < len0 → ∃ y : α, G y ∧ ∀ j u, (f y)[j]? = some u → W.cell? ((x.add (i * K)).add j) = some u := by
      intro i him
      obtain ⟨cs', hc, htr⟩ := hi i (by omega)
      obtain ⟨_, hcl, hat⟩ := World.cells?_some hc
      obtain ⟨y, rfl, hok⟩ := hop _ _ _ htr (fun q hq => hwt q (List.mem_cons_of_mem _ (List.mem_append_left _ (weights_mem_rows _ (D i) (List.mem_map.2 ⟨i, List.mem_range.2 him, rfl⟩) q hq))))
      refine ⟨y, hok, fun j u hj => ?_⟩
      have hj4 : j < K := by
        have := (List.getElem?_eq_some_iff.1 hj).1
        rw [hf y hok] at this
        exact this
      rw [hat j hj4]
      exact hj
    let F : Nat → α := fun i => if h : i < len0 then (hE i h).choose else z
    have hF : ∀ i, i < len0 → G (F i) ∧ ∀ j u, (f (F i))[j]? = some u → W.cell? ((x.add (i * K)).add j) = some u := by
      intro i him
      simp only [F, dif_pos him]
      exact (hE i him).choose_spec
    have hlen : ((List.range len0).map F).length = len0 := by simp
    refine ⟨some x, (List.range len0).map F, m, by rw [hlen, hcs], ?_, ?_, by rw [hlen]; exact hwl, by rw [hlen]; exact hl, fun h => by cases h⟩
    · by_cases h0 : len0 = 0
      · subst h0; exact .inl rfl
      · obtain ⟨g0, h01⟩ := hF 0 (by omega)
        obtain ⟨u0, hu0⟩ : ∃ u, (f (F 0))[0]? = some u := ⟨_, List.getElem?_eq_getElem (by rw [hf _ g0]; exact hK0)⟩
        have h1 := h01 0 _ hu0
        obtain ⟨b, o, spot⟩ := x
        have hspot : spot = none := by simpa [Addr.add] using World.cell?_spot h1
        subst hspot
        refine .inr ⟨b, o, rfl, ?_, fun i c hc => ?_⟩
        · have := lt_of_cell h1
          simpa [Addr.add] using this
        · have hi3 : i < len0 := by have := (List.getElem?_eq_some_iff.1 hc).1; simpa using this
          simp only [List.getElem?_map, List.getElem?_range hi3, Option.map_some, Option.some.injEq] at hc
          subst hc
          obtain ⟨_, g2⟩ := hF i hi3
          refine fun j u hj => ?_
          have := g2 j u hj
          rw [Addr.add_mid, Addr.add_mid] at this
          exact this
    · intro q hq
      obtain ⟨i, hi2, rfl⟩ := List.mem_map.1 hq
      exact (hF i (List.mem_range.1 hi2)).1
set_option maxRecDepth 100000 in
theorem open_row {α : Type} {H : Type} {enc : TypeId × Value → H} {P : Program} {W : World} {v : Value} {d : DataW H} {p : List MemPlace} {base : Nat} (T e : TypeId) (K : Nat) (f : α → List Value) (G : α → Prop) (z : α)
    (hT : P.underlying T = some (.slice e)) (hK : P.cellsOf e = K) (hK0 : 0 < K) (hB : 1 ≤ P.bytesOf e) (hf : ∀ y, G y → (f y).length = K)
    (hop : ∀ n cs x, DataW.trod enc P W 0 (fun _ => true) true n e cs = some x → (∀ n ∈ DataW.weights P e x.1, n ≤ 140737488351232) → ∃ y, cs = f y ∧ G y)
    (hv : Value.okWide P W .any base T v) (h : DataW.Trod enc P W 0 (fun _ => true) true T v d p) (hwt : ∀ n ∈ DataW.weights P T d, n ≤ 140737488351232) :
    ∃ (ao : Option Addr) (L : List α) (cap : Nat), v = .slice ao L.length cap ∧ RAt K ao (L.map f) W ∧ (∀ x ∈ L, G x) ∧ L.length ≤ 140737488351232 := by
  obtain ⟨a0, len0, cap0, rfl⟩ := okWide_slice hT hv
  obtain ⟨fuel, hff⟩ := h
  obtain ⟨ao, L, cap, hcs, h1, h2, h3, _⟩ := open_row_cells T e K f G z hT hK hK0 hB hf hop hff hwt
  simp [Value.cells] at hcs
  obtain ⟨rfl, rfl, rfl⟩ := hcs
  exact ⟨_, L, _, rfl, h1, h2, h3⟩
theorem RAt.take {K : Nat} {ao : Option Addr} {C : List (List Value)} {w : World} (h : RAt K ao C w) (j : Nat) : RAt K ao (C.take j) w := by
  rcases h with rfl | ⟨b, o, rfl, h2, h3⟩
  · exact .inl (by simp)
  · refine .inr ⟨b, o, rfl, h2, fun i c hc => h3 i c ?_⟩
    rw [List.getElem?_take] at hc
    split at hc
    · exact hc
    · cases hc
theorem RAt.drop {K : Nat} {ao : Option Addr} {C : List (List Value)} {w : World} {c j : Nat} (h : RAt K ao C w) (hc : C.length ≤ c) : RAt K (if c = j then ao else ao.map (·.add (j * K))) (C.drop j) w := by
  by_cases hj : C.length ≤ j
  · exact .inl (List.drop_eq_nil_of_le hj)
  rw [if_neg (by omega)]
  rcases h with rfl | ⟨b, o, rfl, h2, h3⟩
  · exact .inl (by simp)
  · refine .inr ⟨b, o + j * K, by simp [Addr.add_lit], h2, fun i c hc => ?_⟩
    rw [List.getElem?_drop] at hc
    have := h3 (j + i) c hc
    rwa [Nat.add_mul, ← Nat.add_assoc] at this
def OwnR (B K : Nat) (e : TypeId) (v : Value) (C : List (List Value)) (w : World) : Prop := w.ownsRow B e K v C.length C.flatten
theorem OwnR.nil (B K : Nat) (e : TypeId) (w : World) : OwnR B K e (.slice none 0 0) [] w := World.ownsRow_nil _ _ _ _
theorem OwnR.mono {B B' K : Nat} {e : TypeId} {v : Value} {C : List (List Value)} {w : World} (h : OwnR B K e v C w) (hB : B' ≤ B) : OwnR B' K e v C w := by
  refine ⟨h.1, ?_⟩
  rcases h.2 with h0 | ⟨g, cap, cur, hv, hg, r⟩
  · exact Or.inl h0
  · exact Or.inr ⟨g, cap, cur, hv, Nat.le_trans hB hg, r⟩
theorem OwnR.row {B K : Nat} {e : TypeId} {v : Value} {C : List (List Value)} {w : World} (h : OwnR B K e v C w) : RowK K e v C w := h.mono (Nat.zero_le _)
theorem OwnR.form {B K : Nat} {e : TypeId} {v : Value} {C : List (List Value)} {w : World} (h : OwnR B K e v C w) : ∃ ao cap, v = .slice ao C.length cap := h.row.form
theorem OwnR.lt {B K : Nat} {e : TypeId} {v : Value} {C : List (List Value)} {w : World} (h : OwnR B K e v C w) {g : Nat} (hg : v.ownBlock = some g) : B ≤ g ∧ g < w.heap.size := World.ownsRow.lt h g hg
theorem OwnR.only {B K : Nat} {e : TypeId} {v : Value} {C : List (List Value)} {w w' : World} {O : Nat → Prop} (h : OwnR B K e v C w) (k : Only O w w') (hO : ∀ g, v.ownBlock = some g → ¬ O g) : OwnR B K e v C w' := by
  refine ⟨h.1, ?_⟩
  rcases h.2 with h2 | ⟨g, cap, cur, h1, h2, h3, h4⟩
  · exact .inl h2
  · exact .inr ⟨g, cap, cur, h1, h2, (k.block g (lt_of_block h3) (hO g (by rw [h1]; rfl))).trans h3, h4⟩
theorem OwnR.rat {B K : Nat} {e : TypeId} {ao : Option Addr} {n c : Nat} {C : List (List Value)} {w : World} (h : OwnR B K e (.slice ao n c) C w) (hW : Wide K C) : RAt K ao C w := h.row.rat hW
end Go.Proofs.YtpfhlhcnmeodbaaGreatDoor
namespace Go.Proofs.YtpfhlhcnmeodbaaGreatDoor
open Go.RowKit Go.BigFrame
def EntsAt (ao : Option Addr) (L : List EntN) (w : World) : Prop := RAt 73 ao (L.map entL) w
theorem ents_all {A B : List EntN} {n : Nat} (hA : A.length = n) (hB : B.length = n) (h : ∀ j, j < n → A[j]? = B[j]?) : A = B := by
  refine List.ext_getElem? fun j => ?_
  by_cases hj : j < n
  · exact h j hj
  · rw [List.getElem?_eq_none (by omega), List.getElem?_eq_none (by omega)]
def OwnE15 (B : Nat) (v : Value) (L : List EntN) (w : World) : Prop := OwnR B 73 54 v (L.map entL) w ∧ ∀ x ∈ L, x.Ok
theorem OwnE15.nil (B : Nat) (w : World) : OwnE15 B (.slice none 0 0) [] w := ⟨OwnR.nil _ _ _ _, fun x hx => by cases hx⟩
theorem OwnE15.form {B : Nat} {v : Value} {L : List EntN} {w : World} (h : OwnE15 B v L w) : ∃ ao cap, v = .slice ao L.length cap := by
  have := h.1.form
  rwa [List.length_map] at this
theorem OwnE15.mono {B B' : Nat} {v : Value} {L : List EntN} {w : World} (h : OwnE15 B v L w) (hB : B' ≤ B) : OwnE15 B' v L w := ⟨h.1.mono hB, h.2⟩
theorem OwnE15.at {B : Nat} {ao : Option Addr} {n c : Nat} {L : List EntN} {w : World} (h : OwnE15 B (.slice ao n c) L w) : EntsAt ao L w := h.1.rat (wide_map fun x hx => entL_len (h.2 x hx))
theorem Tryz.infoE73 : ∃ bytes, bytes ≤ 1024 ∧ (Tryz.prog.info? 54).map (fun i => (i.zero, i.size, i.bytes)) = some (some (.agg (entV noE)), 73, bytes) := ⟨168, by decide, by kernel_rfl⟩
theorem built_ent1 (y : EntN) (hy : y.Ok) (w : World) : (Instr.buildSlice 35 1 #[(0, .agg (entL y).toArray)]).run Tryz.prog w = .ok (.slice (some ⟨w.heap.size, 0, none⟩) 1 1) (w.alloc (.cells (entL y).toArray 54)) := by
  obtain ⟨bytes, hby, hinfo⟩ := Tryz.infoE73
  exact run_build_wide 35 54 (entL y) _ _ _ Tryz.underlying35 hinfo (entL_len hy) (by decide) (by decide) w
end Go.Proofs.YtpfhlhcnmeodbaaGreatDoor
namespace Go.Proofs.YtpfhlhcnmeodbaaGreatDoor
open Go.RowKit Go.ChangeShapes Go.WideShapes Go.Deep
structure DraftN.In (d : DraftN) : Prop where
  ref : IdOk d.ref
  low : -9223372036854775808 ≤ d.kind
  high : d.kind ≤ 9223372036854775807
  key : d.key.length ≤ 140737488351232
  val : d.val.length ≤ 140737488351232
theorem weights_one {H : Type} {P : Program} {t : TypeId} (bs : List UInt8) : DataW.weights (H := H) P t (.lit (.string bs)) = [bs.length] := by simp [DataW.weights]
set_option maxRecDepth 100000 in
theorem open_draft_cells {H : Type} {enc : TypeId × Value → H} {W : World} {n : Nat} {cs : List Value} {x : DataW H × List MemPlace}
    (h : DataW.trod enc Tryz.prog W 0 (fun _ => true) true n 52 cs = some x) (hwt : ∀ n ∈ DataW.weights Tryz.prog 52 x.1, n ≤ 140737488351232) :
    ∃ d : DraftN, cs = draftL d ∧ d.In := by
  obtain ⟨xs, m, _, hx, hcl, hxl, hf⟩ := DataW.trod_struct Tryz.underlying52 h
  have hci : Tryz.prog.cellsOf 3 = 1 := by kernel_rfl
  have hcs : Tryz.prog.cellsOf 9 = 1 := by kernel_rfl
  have hcr : Tryz.prog.cellsOf 43 = 32 := by kernel_rfl
  have hcd : Tryz.prog.cellsOf 52 = 35 := by kernel_rfl
  have hcu : Tryz.prog.cellsOf 5 = 1 := by kernel_rfl
  rw [hcd] at hcl
  match cs, hcl with
  | v0 :: v1 :: v2 :: r, hcl =>
  match xs, hxl with
  | [x0, x1, x2, x3], _ =>
  have t0 : DataW.trod enc Tryz.prog W 0 (fun _ => true) true m 3 ((v0 :: v1 :: v2 :: r).take (Tryz.prog.cellsOf 3)) = some x0 := hf 0 _ rfl
  have t1 : DataW.trod enc Tryz.prog W 0 (fun _ => true) true m 9 (((v0 :: v1 :: v2 :: r).drop 1).take (Tryz.prog.cellsOf 9)) = some x1 := hf 1 _ rfl
  have t2 : DataW.trod enc Tryz.prog W 0 (fun _ => true) true m 9 (((v0 :: v1 :: v2 :: r).drop 2).take (Tryz.prog.cellsOf 9)) = some x2 := hf 2 _ rfl
  have t3 : DataW.trod enc Tryz.prog W 0 (fun _ => true) true m 43 (((v0 :: v1 :: v2 :: r).drop 3).take (Tryz.prog.cellsOf 43)) = some x3 := hf 3 _ rfl
  rw [hci] at t0
  rw [hcs] at t1 t2
  rw [hcr] at t3
  simp only [List.drop_succ_cons, List.drop_zero, List.take_succ_cons, List.take_zero] at t0 t1 t2
  rw [show (v0 :: v1 :: v2 :: r).drop 3 = r from rfl, List.take_of_length_le (by simp only [List.length_cons] at hcl; omega)] at t3
  obtain ⟨k, e0, _, w0⟩ := DataW.trod_int Tryz.underlying3 t0
  obtain ⟨s1, e1, d1, _⟩ := DataW.trod_string Tryz.underlying9 t1
  obtain ⟨s2, e2, d2, _⟩ := DataW.trod_string Tryz.underlying9 t2
  obtain ⟨l, e3, h3, h4⟩ := trod_bytesI Tryz.underlying43 Tryz.underlying5 hcu hcr t3
  have hx1 : x.1 = .agg [x0.1, x1.1, x2.1, x3.1] := congrArg Prod.fst hx
  rw [hx1] at hwt
  simp only [DataW.weights, Tryz.underlying52] at hwt
  have q1 : s1.data.toList.length ≤ 140737488351232 := hwt _ (by
    simp only [List.map_cons, List.map_nil, DataW.weightsEach, List.mem_append, d1, weights_one, List.mem_singleton]
    exact .inr (.inl trivial))
  have q2 : s2.data.toList.length ≤ 140737488351232 := hwt _ (by
    simp only [List.map_cons, List.map_nil, DataW.weightsEach, List.mem_append, d2, weights_one, List.mem_singleton]
    exact .inr (.inr (.inl trivial)))
  simp only [List.cons.injEq, and_true] at e0 e1 e2
  simp only [Lit.wf, Bool.and_eq_true, decide_eq_true_eq] at w0
  refine ⟨⟨k, s1.data.toList, s2.data.toList, l⟩, ?_, ⟨h3, h4⟩, w0.1, w0.2, q1, q2⟩
  rw [e0, e1, e2, e3]
  rfl
end Go.Proofs.YtpfhlhcnmeodbaaGreatDoor
