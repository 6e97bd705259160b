/-
  The law EntryOne: for every input it answers true, and its arguments read as they did. No condition.
-/
import Derived.ChangeOld
import Derived.Deep.Cut
import Derived.Deep.CutBlock
import Derived.Deep.CutRange
import Derived.Deep.MidRow
import Derived.Deep.Quiet
import Derived.Deep.Slices
import Derived.Great.BuildSlice
import Derived.Laws.IdiomCopy
import Derived.Laws.ResultCell
import Derived.OpenShut
import Derived.ProofKit
import Derived.ShutString
import Derived.SizedLaws
import Derived.SliceStrings
import Derived.StillTail
import Derived.Test.YtenmkfjgjemiiaaRows
import Derived.Test.YtenmkfjgjemiiaaJ01
import Derived.Test.YtenmkfjgjemiiaaJ02
namespace Go.Proofs.Ytenmkfjgjemiiaa
open Go.RowKit
theorem entB_inj {a b : EntN} (fa : a.Fit) (fb : b.Fit) (ha : GoodE a) (hb : GoodE b) (h : entB a = entB b) : a = b := by
  have h1 := readE_entB fa
  have h2 := readE_entB fb
  rw [if_pos ha, h] at h1
  rw [if_pos hb, h1] at h2
  exact Option.some.inj h2
end Go.Proofs.Ytenmkfjgjemiiaa
namespace Go.Proofs.Ytenmkfjgjemiiaa
open Go.RowKit
section
variable {P : Program}
theorem Cells.alloc {b : Nat} {t : TypeId} {cs : Array Value} {w : World} (h : Cells b t cs w) (o : Obj) : Cells b t cs (w.alloc o) := (heap_alloc_old w o h.lt).trans h
end
end Go.Proofs.Ytenmkfjgjemiiaa
namespace Go.Proofs.Ytenmkfjgjemiiaa
open Go.RowKit Go.ChangeShapes Go.WideShapes
theorem trod_bytesI {H : Type} {enc : TypeId × Value → H} {P : Program} {W : World} {t e : TypeId} {n base fuel : Nat} {sp : Nat → Bool} {held : Bool} {cs : List Value} {x : DataW H × List MemPlace}
    (hu : P.underlying t = some (.array n e)) (he : P.underlying e = some (.int .u8)) (hone : P.cellsOf e = 1) (hsz : P.cellsOf t = n) (h : DataW.trod enc P W base sp held fuel t cs = some x) :
    ∃ l : List Nat, cs = nums .u8 l ∧ l.length = n ∧ ∀ y ∈ l, y < 256 := by
  obtain ⟨xs, m, _, _, hcl, hxl, hat⟩ := DataW.trod_array hu h
  rw [hsz] at hcl
  have key : ∀ i, i < n → ∃ z : Int, cs[i]? = some (.int .u8 z) ∧ 0 ≤ z ∧ z ≤ 255 := by
    intro i hi
    have h1 := hat i hi
    rw [hone, Nat.mul_one, List.getElem?_eq_getElem (by omega)] at h1
    obtain ⟨z, hz, _, hw⟩ := DataW.trod_int he h1
    refine ⟨z, ?_, ?_⟩
    · have := congrArg (fun l => l[0]?) hz
      simpa [List.getElem?_drop, List.getElem?_take] using this
    · simp only [Lit.wf, Bool.and_eq_true, decide_eq_true_eq] at hw
      exact ⟨hw.1, hw.2⟩
  refine ⟨cs.map fun v => (intOf v).toNat, ?_, by simp [hcl], ?_⟩
  · refine List.ext_getElem? fun i => ?_
    rw [nums, List.getElem?_map, List.getElem?_map]
    rcases Nat.lt_or_ge i n with hi | hi
    · obtain ⟨z, h1, h2, h3⟩ := key i hi
      rw [h1]
      simp [intOf]
      omega
    · rw [List.getElem?_eq_none (by omega)]
      rfl
  · intro y hy
    obtain ⟨v, hv, rfl⟩ := List.mem_map.1 hy
    obtain ⟨i, hi, rfl⟩ := List.mem_iff_getElem.1 hv
    obtain ⟨z, h1, h2, h3⟩ := key i (by omega)
    rw [List.getElem?_eq_getElem hi] at h1
    obtain h1 := Option.some.inj h1
    rw [h1]
    simp [intOf]
    omega
end Go.Proofs.Ytenmkfjgjemiiaa
namespace Go.Proofs.Ytenmkfjgjemiiaa
open Go.RowKit Go.BigFrame
theorem draft_mid {g o : Nat} {d : DraftN} {w : World} (h : w.rangeAt g o (draftL d)) : w.cell? ⟨g, o, none⟩ = some (.int .i64 d.kind) ∧ w.cell? ⟨g, o + 1, none⟩ = some (.string ⟨d.key.toArray⟩) ∧ w.cell? ⟨g, o + 2, none⟩ = some (.string ⟨d.val.toArray⟩) ∧ w.rangeAt g (o + 3) (nums .u8 d.ref) := by
  refine ⟨h 0 _ rfl, h 1 _ rfl, h 2 _ rfl, fun j v hj => ?_⟩
  have h1 := h (j + 3) v (by
    rw [draftL, List.getElem?_cons_succ, List.getElem?_cons_succ, List.getElem?_cons_succ]
    exact hj)
  rw [show o + (j + 3) = o + 3 + j by omega] at h1
  exact h1
section
variable (a : EntN) (ha : a.Ok)
include ha
omit ha in
end
end Go.Proofs.Ytenmkfjgjemiiaa
namespace Go.Proofs.Ytenmkfjgjemiiaa
open Go.RowKit
theorem wpList_load_mid_want {P : Program} {ops : Array Oper} {rest : List Oper} {op : Oper} {a : Act} {w : World} {Q : Exit → Act → World → Prop} (hw : Region.wanted op (yielded ops a.tmps) = true) (ty : TypeId) (x : Operand) (ho : op.op = .load ty x)
    (b o : Nat) (hx : a.eval x = .pointer (some ⟨b, o, none⟩)) (cs : List Value) (d : TypeDesc) (hc : w.rangeAt b o cs) (hu : P.underlying ty = some d) (hd : d.isRow = true) (hi : (P.info? ty).map (·.size) = some cs.length)
    (h : wpList P ops Q rest (a.put op.dst (.agg cs.toArray)) w) : wpList P ops Q (op :: rest) a w :=
  BigFrame.wpList_want hw fun _ hK => wp_load_mid ty x ho b o hx cs d hc hu hd hi (hK _ _ h)
end Go.Proofs.Ytenmkfjgjemiiaa
namespace Go.Proofs.Ytenmkfjgjemiiaa
open Go.RowKit Go.BigFrame
set_option maxHeartbeats 2000000 in
set_option maxRecDepth 100000 in
theorem ref_goodDraft (d : DraftN) (hr : IdOk d.ref) (hk : d.key.length ≤ 140737488351232) (hv : d.val.length ≤ 140737488351232) (w : World) :
    Calls Try.prog 28 #[.agg (draftV d)] w fun e w' => e = .returned (.bool (decide (GoodD d))) ∧ Below w.heap.size w w' := by
  have hx : Cells w.heap.size 28 (draftV d) (w.alloc (.cells (draftV d) 28)) := heap_alloc_new w _
  have hb : Below w.heap.size w (w.alloc (.cells (draftV d) 28)) := (Below.refl _ _).alloc (Nat.le_refl _) _
  obtain ⟨c0, c1, c2, c3⟩ := draft_cells hx
  have HC3 := Lib.hid c3
  have HB := Lib.hid hb
  have heq := fun w' => equal_idI d.ref zeroI hr.1 zeroI_ok.1 hr.2 zeroI_ok.2 w'
  have HI := Lib.hid (show (Try.prog.info? 26).map (·.size) = some d.ref.length by rw [hr.1]; exact Try.sizeI)
  obtain ⟨k, hkd⟩ : ∃ k, d.kind = k := ⟨_, rfl⟩
  obtain ⟨kl, hkl⟩ : ∃ n, d.key.length = n := ⟨_, rfl⟩
  obtain ⟨vl, hvl⟩ : ∃ n, d.val.length = n := ⟨_, rfl⟩
  have HG := Shut.mk (show GoodD d ↔ 1 ≤ k ∧ k ≤ 5 ∧ 1 ≤ kl ∧ kl ≤ 16 ∧ vl ≤ 64 ∧ (k ≤ 3 → d.ref = zeroI) ∧ (k = 5 → d.ref ≠ zeroI ∧ d.val = []) by rw [← hkd, ← hkl, ← hvl]; rfl)
  rw [hkd] at c0
  clear hx hb c3
  by_cases h1 : k < 1
  · have hgd : decide (GoodD d) = false := decide_eq_false (fun h => by have := HG.out.1 h; omega)
    rw [hgd]
    go_enter Try.func28, Try.ntmps28
    go_wp2_with fail
    go_ret
    exact ⟨rfl, HB.out⟩
  by_cases h2 : 5 < k
  · have hgd : decide (GoodD d) = false := decide_eq_false (fun h => by have := HG.out.1 h; omega)
    rw [hgd]
    go_enter Try.func28, Try.ntmps28
    go_wp2_with fail
    go_ret
    exact ⟨rfl, HB.out⟩
  by_cases h3 : kl < 1
  · have hgd : decide (GoodD d) = false := decide_eq_false (fun h => by have := HG.out.1 h; omega)
    rw [hgd]
    go_enter Try.func28, Try.ntmps28
    go_wp2_with fail
    go_ret
    exact ⟨rfl, HB.out⟩
  by_cases h4 : 16 < kl
  · have hgd : decide (GoodD d) = false := decide_eq_false (fun h => by have := HG.out.1 h; omega)
    rw [hgd]
    go_enter Try.func28, Try.ntmps28
    go_wp2_with fail
    go_ret
    exact ⟨rfl, HB.out⟩
  by_cases h5 : 64 < vl
  · have hgd : decide (GoodD d) = false := decide_eq_false (fun h => by have := HG.out.1 h; omega)
    rw [hgd]
    go_enter Try.func28, Try.ntmps28
    go_wp2_with fail
    go_ret
    exact ⟨rfl, HB.out⟩
  obtain ⟨z, hz2⟩ : ∃ z, (d.ref == zeroI) = z := ⟨_, rfl⟩
  have HZ := Shut.mk hz2
  rw [hz2, zeroI_lit] at heq
  clear hz2
  have hzp : (z = true ↔ d.ref = zeroI) := by rw [← HZ.out]; simp
  by_cases h6 : k ≤ 3
  · have hgd : decide (GoodD d) = z := by
      cases z with
      | true => exact decide_eq_true (HG.out.2 ⟨by omega, by omega, by omega, by omega, by omega, fun _ => hzp.1 rfl, fun h => by omega⟩)
      | false => exact decide_eq_false (fun h => by have := hzp.2 ((HG.out.1 h).2.2.2.2.2.1 h6); cases this)
    rw [hgd]
    clear hgd hzp
    go_enter Try.func28, Try.ntmps28
    go_wp2_with (refine wpList_load_id rfl 26 _ rfl w.heap.size 3 d.ref _ rfl HC3.out Try.underlying26 rfl HI.out ?_)
    go_ret
    exact ⟨rfl, HB.out⟩
  by_cases h7 : k = 4
  · have hgd : decide (GoodD d) = true := decide_eq_true (HG.out.2 ⟨by omega, by omega, by omega, by omega, by omega, fun h => by omega, fun h => by omega⟩)
    rw [hgd]
    clear hgd hzp
    have h8 : (k == 4) = true := by simp [h7]
    go_enter Try.func28, Try.ntmps28
    go_wp2_with (refine wpList_load_id rfl 26 _ rfl w.heap.size 3 d.ref _ rfl HC3.out Try.underlying26 rfl HI.out ?_)
    go_ret
    exact ⟨rfl, HB.out⟩
  have h8 : (k == 4) = false := by simp [h7]
  have hgd : decide (GoodD d) = (!z && d.val == []) := by
    rw [val_nil_beq]
    cases z with
    | true => exact decide_eq_false (fun h => ((HG.out.1 h).2.2.2.2.2.2 (by omega)).1 (hzp.1 rfl))
    | false =>
      by_cases hv0 : d.val = []
      · rw [decide_eq_true hv0]
        exact decide_eq_true (HG.out.2 ⟨by omega, by omega, by omega, by omega, by omega, fun h => by omega, fun _ => ⟨fun e => (by have := hzp.2 e; cases this), hv0⟩⟩)
      · rw [decide_eq_false hv0]
        exact decide_eq_false (fun h => hv0 ((HG.out.1 h).2.2.2.2.2.2 (by omega)).2)
  rw [hgd]
  clear hgd hzp
  cases z with
  | true =>
    go_enter Try.func28, Try.ntmps28
    go_wp2_with (refine wpList_load_id rfl 26 _ rfl w.heap.size 3 d.ref _ rfl HC3.out Try.underlying26 rfl HI.out ?_)
    go_ret
    exact ⟨rfl, HB.out⟩
  | false =>
    go_enter Try.func28, Try.ntmps28
    go_wp2_with (refine wpList_load_id rfl 26 _ rfl w.heap.size 3 d.ref _ rfl HC3.out Try.underlying26 rfl HI.out ?_)
    go_ret
    exact ⟨rfl, HB.out⟩
end Go.Proofs.Ytenmkfjgjemiiaa
namespace Go.Proofs.Ytenmkfjgjemiiaa
open Go.ChangeShapes Go.WideShapes Go.ChangeAt Go.RowKit
theorem law_laidOut : laidOutB Try.prog = true := by kernel_rfl
end Go.Proofs.Ytenmkfjgjemiiaa
namespace Go.Proofs.Ytenmkfjgjemiiaa
open Go.RowKit Go.ChangeShapes Go.WideShapes Go.Deep
structure DraftN.In (d : DraftN) : Prop where
  ref : IdOk d.ref
  low : -9223372036854775808 ≤ d.kind
  high : d.kind ≤ 9223372036854775807
  key : d.key.length ≤ 140737488351232
  val : d.val.length ≤ 140737488351232
theorem weights_one {H : Type} {P : Program} {t : TypeId} (bs : List UInt8) : DataW.weights (H := H) P t (.lit (.string bs)) = [bs.length] := by simp [DataW.weights]
set_option maxRecDepth 100000 in
theorem open_draft_cells {H : Type} {enc : TypeId × Value → H} {W : World} {n : Nat} {cs : List Value} {x : DataW H × List MemPlace}
    (h : DataW.trod enc Try.prog W 0 (fun _ => true) true n 28 cs = some x) (hwt : ∀ n ∈ DataW.weights Try.prog 28 x.1, n ≤ 140737488351232) :
    ∃ d : DraftN, cs = draftL d ∧ d.In := by
  obtain ⟨xs, m, _, hx, hcl, hxl, hf⟩ := DataW.trod_struct Try.underlying28 h
  have hci : Try.prog.cellsOf 3 = 1 := by kernel_rfl
  have hcs : Try.prog.cellsOf 9 = 1 := by kernel_rfl
  have hcr : Try.prog.cellsOf 26 = 32 := by kernel_rfl
  have hcd : Try.prog.cellsOf 28 = 35 := by kernel_rfl
  have hcu : Try.prog.cellsOf 5 = 1 := by kernel_rfl
  rw [hcd] at hcl
  match cs, hcl with
  | v0 :: v1 :: v2 :: r, hcl =>
  match xs, hxl with
  | [x0, x1, x2, x3], _ =>
  have t0 : DataW.trod enc Try.prog W 0 (fun _ => true) true m 3 ((v0 :: v1 :: v2 :: r).take (Try.prog.cellsOf 3)) = some x0 := hf 0 _ rfl
  have t1 : DataW.trod enc Try.prog W 0 (fun _ => true) true m 9 (((v0 :: v1 :: v2 :: r).drop 1).take (Try.prog.cellsOf 9)) = some x1 := hf 1 _ rfl
  have t2 : DataW.trod enc Try.prog W 0 (fun _ => true) true m 9 (((v0 :: v1 :: v2 :: r).drop 2).take (Try.prog.cellsOf 9)) = some x2 := hf 2 _ rfl
  have t3 : DataW.trod enc Try.prog W 0 (fun _ => true) true m 26 (((v0 :: v1 :: v2 :: r).drop 3).take (Try.prog.cellsOf 26)) = some x3 := hf 3 _ rfl
  rw [hci] at t0
  rw [hcs] at t1 t2
  rw [hcr] at t3
  simp only [List.drop_succ_cons, List.drop_zero, List.take_succ_cons, List.take_zero] at t0 t1 t2
  rw [show (v0 :: v1 :: v2 :: r).drop 3 = r from rfl, List.take_of_length_le (by simp only [List.length_cons] at hcl; omega)] at t3
  obtain ⟨k, e0, _, w0⟩ := DataW.trod_int Try.underlying3 t0
  obtain ⟨s1, e1, d1, _⟩ := DataW.trod_string Try.underlying9 t1
  obtain ⟨s2, e2, d2, _⟩ := DataW.trod_string Try.underlying9 t2
  obtain ⟨l, e3, h3, h4⟩ := trod_bytesI Try.underlying26 Try.underlying5 hcu hcr t3
  have hx1 : x.1 = .agg [x0.1, x1.1, x2.1, x3.1] := congrArg Prod.fst hx
  rw [hx1] at hwt
  simp only [DataW.weights, Try.underlying28] at hwt
  have q1 : s1.data.toList.length ≤ 140737488351232 := hwt _ (by
    simp only [List.map_cons, List.map_nil, DataW.weightsEach, List.mem_append, d1, weights_one, List.mem_singleton]
    exact .inr (.inl trivial))
  have q2 : s2.data.toList.length ≤ 140737488351232 := hwt _ (by
    simp only [List.map_cons, List.map_nil, DataW.weightsEach, List.mem_append, d2, weights_one, List.mem_singleton]
    exact .inr (.inr (.inl trivial)))
  simp only [List.cons.injEq, and_true] at e0 e1 e2
  simp only [Lit.wf, Bool.and_eq_true, decide_eq_true_eq] at w0
  refine ⟨⟨k, s1.data.toList, s2.data.toList, l⟩, ?_, ⟨h3, h4⟩, w0.1, w0.2, q1, q2⟩
  rw [e0, e1, e2, e3]
  rfl
end Go.Proofs.Ytenmkfjgjemiiaa
namespace Go.Proofs.Ytenmkfjgjemiiaa
open Go.RowKit Go.ChangeShapes Go.WideShapes Go.Deep
structure EntN.In (e : EntN) : Prop where
  d : e.d.In
  prev : IdOk e.prev
  klow : -9223372036854775808 ≤ e.kind
  khigh : e.kind ≤ 9223372036854775807
  flow : -9223372036854775808 ≤ e.src
  fhigh : e.src ≤ 9223372036854775807
  slow : -9223372036854775808 ≤ e.seq
  shigh : e.seq ≤ 9223372036854775807
  mlow : -9223372036854775808 ≤ e.mask
  mhigh : e.mask ≤ 9223372036854775807
  pay : e.pay.length ≤ 140737488351232
  sig : e.sig.length ≤ 140737488351232
theorem EntN.In.ok {e : EntN} (h : e.In) : e.Ok := ⟨h.d.ref, h.prev⟩
theorem EntN.In.fit {e : EntN} (h : e.In) : e.Fit := ⟨h.ok, by have := h.shigh; omega⟩
set_option maxRecDepth 100000 in
theorem open_ent_cells {H : Type} {enc : TypeId × Value → H} {W : World} {n : Nat} {cs : List Value} {x : DataW H × List MemPlace}
    (h : DataW.trod enc Try.prog W 0 (fun _ => true) true n 30 cs = some x) (hwt : ∀ n ∈ DataW.weights Try.prog 30 x.1, n ≤ 140737488351232) :
    ∃ e : EntN, cs = entL e ∧ e.In := by
  obtain ⟨xs, m, _, hx, hcl, hxl, hf⟩ := DataW.trod_struct Try.underlying30 h
  have hci : Try.prog.cellsOf 3 = 1 := by kernel_rfl
  have hcs : Try.prog.cellsOf 9 = 1 := by kernel_rfl
  have hcr : Try.prog.cellsOf 26 = 32 := by kernel_rfl
  have hcd : Try.prog.cellsOf 28 = 35 := by kernel_rfl
  have hce : Try.prog.cellsOf 30 = 73 := by kernel_rfl
  have hcu : Try.prog.cellsOf 5 = 1 := by kernel_rfl
  rw [hce] at hcl
  match xs, hxl with
  | [x0, x1, x2, x3, x4, x5, x6, x7], _ =>
  have t0 : DataW.trod enc Try.prog W 0 (fun _ => true) true m 3 ((cs.drop 0).take (Try.prog.cellsOf 3)) = some x0 := hf 0 _ rfl
  have t1 : DataW.trod enc Try.prog W 0 (fun _ => true) true m 28 ((cs.drop 1).take (Try.prog.cellsOf 28)) = some x1 := hf 1 _ rfl
  have t2 : DataW.trod enc Try.prog W 0 (fun _ => true) true m 3 ((cs.drop 36).take (Try.prog.cellsOf 3)) = some x2 := hf 2 _ rfl
  have t3 : DataW.trod enc Try.prog W 0 (fun _ => true) true m 3 ((cs.drop 37).take (Try.prog.cellsOf 3)) = some x3 := hf 3 _ rfl
  have t4 : DataW.trod enc Try.prog W 0 (fun _ => true) true m 26 ((cs.drop 38).take (Try.prog.cellsOf 26)) = some x4 := hf 4 _ rfl
  have t5 : DataW.trod enc Try.prog W 0 (fun _ => true) true m 3 ((cs.drop 70).take (Try.prog.cellsOf 3)) = some x5 := hf 5 _ rfl
  have t6 : DataW.trod enc Try.prog W 0 (fun _ => true) true m 9 ((cs.drop 71).take (Try.prog.cellsOf 9)) = some x6 := hf 6 _ rfl
  have t7 : DataW.trod enc Try.prog W 0 (fun _ => true) true m 9 ((cs.drop 72).take (Try.prog.cellsOf 9)) = some x7 := hf 7 _ rfl
  rw [hci] at t0 t2 t3 t5
  rw [hcs] at t6 t7
  rw [hcr] at t4
  rw [hcd] at t1
  have hx1 : x.1 = .agg [x0.1, x1.1, x2.1, x3.1, x4.1, x5.1, x6.1, x7.1] := congrArg Prod.fst hx
  rw [hx1] at hwt
  simp only [DataW.weights, Try.underlying30] at hwt
  obtain ⟨d, e1, hd⟩ := open_draft_cells t1 (fun q hq => hwt q (by
    simp only [List.map_cons, List.map_nil, DataW.weightsEach, List.mem_append]
    exact .inr (.inl hq)))
  obtain ⟨k, e0, _, w0⟩ := DataW.trod_int Try.underlying3 t0
  obtain ⟨a, e2, _, w2⟩ := DataW.trod_int Try.underlying3 t2
  obtain ⟨b, e3, _, w3⟩ := DataW.trod_int Try.underlying3 t3
  obtain ⟨l, e4, h41, h42⟩ := trod_bytesI Try.underlying26 Try.underlying5 hcu hcr t4
  obtain ⟨c, e5, _, w5⟩ := DataW.trod_int Try.underlying3 t5
  obtain ⟨s6, e6, d6, _⟩ := DataW.trod_string Try.underlying9 t6
  obtain ⟨s7, e7, d7, _⟩ := DataW.trod_string Try.underlying9 t7
  have q6 : s6.data.toList.length ≤ 140737488351232 := hwt _ (by
    simp only [List.map_cons, List.map_nil, DataW.weightsEach, List.mem_append, d6, weights_one, List.mem_singleton]
    exact .inr (.inr (.inr (.inr (.inr (.inr (.inl trivial)))))))
  have q7 : s7.data.toList.length ≤ 140737488351232 := hwt _ (by
    simp only [List.map_cons, List.map_nil, DataW.weightsEach, List.mem_append, d7, weights_one, List.mem_singleton]
    exact .inr (.inr (.inr (.inr (.inr (.inr (.inr (.inl trivial))))))))
  simp only [Lit.wf, Bool.and_eq_true, decide_eq_true_eq] at w0 w2 w3 w5
  refine ⟨⟨k, d, a, b, l, c, s6.data.toList, s7.data.toList⟩, ?_, ⟨hd, ⟨h41, h42⟩, w0.1, w0.2, w2.1, w2.2, w3.1, w3.2, w5.1, w5.2, q6, q7⟩⟩
  have hsplit : cs = (cs.drop 0).take 1 ++ ((cs.drop 1).take 35 ++ (((cs.drop 36).take 1 ++ (cs.drop 37).take 1) ++ ((cs.drop 38).take 32 ++ ((cs.drop 70).take 1 ++ ((cs.drop 71).take 1 ++ (cs.drop 72).take 1))))) := by
    have s1 : ∀ i n, cs.drop i = (cs.drop i).take n ++ cs.drop (i + n) := fun i n => by rw [← List.drop_drop, List.take_append_drop]
    have hlast : (cs.drop 72).take 1 = cs.drop 72 := List.take_of_length_le (by rw [List.length_drop]; omega)
    rw [hlast]
    conv => lhs; rw [← List.drop_zero (l := cs), s1 0 1, s1 1 35, s1 36 1, s1 37 1, s1 38 32, s1 70 1, s1 71 1]
    simp only [List.append_assoc]
  rw [hsplit, e0, e1, e2, e3, e4, e5, e6, e7]
  rfl
set_option maxRecDepth 100000 in
theorem open_ent {H : Type} {enc : TypeId × Value → H} {W : World} {v : Value} {d : DataW H} {p : List MemPlace} {base : Nat} (hv : Value.okWide Try.prog W .any base 30 v)
    (h : DataW.Trod enc Try.prog W 0 (fun _ => true) true 30 v d p) (hwt : ∀ n ∈ DataW.weights Try.prog 30 d, n ≤ 140737488351232) :
    ∃ x : EntN, v = .agg (entV x) ∧ x.In := by
  obtain ⟨cs, rfl, _⟩ := okWide_struct Try.underlying30 hv
  obtain ⟨fuel, hf⟩ := h
  obtain ⟨x, e, hx⟩ := open_ent_cells hf hwt
  exact ⟨x, congrArg Value.agg (Array.ext' (by rw [entV, List.toList_toArray]; exact e)), hx⟩
end Go.Proofs.Ytenmkfjgjemiiaa
namespace Go.Proofs.Ytenmkfjgjemiiaa
open Go.RowKit Go.BigFrame
theorem EntN.In.len {e : EntN} (h : e.In) : e.Len := ⟨h.ok, h.d.key, h.d.val, h.pay, h.sig⟩
def great15N (e : EntN) : Bool := decide (20000 < e.pay.length ∨ 2000 < e.sig.length ∨ 200 < e.d.key.length ∨ 200 < e.d.val.length)
set_option maxHeartbeats 1000000 in
set_option maxRecDepth 100000 in
theorem great15_any (e : EntN) (he : e.Len) (w : World) :
    Calls Try.prog 9 #[.agg (entV e)] w fun r w' => r = .returned (.bool (great15N e)) ∧ Below w.heap.size w w' := by
  have hx : Cells w.heap.size 30 (entV e) (w.alloc (.cells (entV e) 30)) := heap_alloc_new w _
  have hb : Below w.heap.size w (w.alloc (.cells (entV e) 30)) := (Below.refl _ _).alloc (Nat.le_refl _) _
  obtain ⟨_, cd, _, _, _, _, c71, c72⟩ := ent_cells he.ok hx
  obtain ⟨_, c2, c3, _⟩ := draft_mid cd
  have HB := Lib.hid hb
  have hy := he.pay
  have hs := he.sig
  have hk := he.key
  have hv := he.val
  obtain ⟨yl, hyl⟩ : ∃ n, e.pay.length = n := ⟨_, rfl⟩
  obtain ⟨sl, hsl⟩ : ∃ n, e.sig.length = n := ⟨_, rfl⟩
  obtain ⟨kl, hkl⟩ : ∃ n, e.d.key.length = n := ⟨_, rfl⟩
  obtain ⟨vl, hvl⟩ : ∃ n, e.d.val.length = n := ⟨_, rfl⟩
  have HG := Shut.mk (show great15N e = decide (20000 < yl ∨ 2000 < sl ∨ 200 < kl ∨ 200 < vl) by rw [great15N, hyl, hsl, hkl, hvl])
  rw [hyl] at hy
  rw [hsl] at hs
  rw [hkl] at hk
  rw [hvl] at hv
  clear hx hb cd he
  by_cases h1 : 20000 < yl
  · have h1i : decide ((20000 : Int) < (yl : Int)) = true := decide_eq_true (by omega)
    have HR := Shut.mk (HG.out.trans (decide_eq_true (by omega)))
    go_enter Try.func9, Try.ntmps9
    go_wp2_with fail
    go_ret
    exact ⟨by rw [HR.out]; rfl, HB.out⟩
  have h1i : decide ((20000 : Int) < (yl : Int)) = false := decide_eq_false (by omega)
  by_cases h2 : 2000 < sl
  · have h2i : decide ((2000 : Int) < (sl : Int)) = true := decide_eq_true (by omega)
    have HR := Shut.mk (HG.out.trans (decide_eq_true (by omega)))
    go_enter Try.func9, Try.ntmps9
    go_wp2_with fail
    go_ret
    exact ⟨by rw [HR.out]; rfl, HB.out⟩
  have h2i : decide ((2000 : Int) < (sl : Int)) = false := decide_eq_false (by omega)
  by_cases h3 : 200 < kl
  · have h3i : decide ((200 : Int) < (kl : Int)) = true := decide_eq_true (by omega)
    have HR := Shut.mk (HG.out.trans (decide_eq_true (by omega)))
    go_enter Try.func9, Try.ntmps9
    go_wp2_with fail
    go_ret
    exact ⟨by rw [HR.out]; rfl, HB.out⟩
  have h3i : decide ((200 : Int) < (kl : Int)) = false := decide_eq_false (by omega)
  by_cases h4 : 200 < vl
  · have h4i : decide ((200 : Int) < (vl : Int)) = true := decide_eq_true (by omega)
    have HR := Shut.mk (HG.out.trans (decide_eq_true (by omega)))
    go_enter Try.func9, Try.ntmps9
    go_wp2_with fail
    go_ret
    exact ⟨by rw [HR.out]; rfl, HB.out⟩
  have h4i : decide ((200 : Int) < (vl : Int)) = false := decide_eq_false (by omega)
  have HR := Shut.mk (HG.out.trans (decide_eq_false (by omega)))
  go_enter Try.func9, Try.ntmps9
  go_wp2_with fail
  go_ret
  exact ⟨by rw [HR.out]; rfl, HB.out⟩
end Go.Proofs.Ytenmkfjgjemiiaa
namespace Go.Proofs.Ytenmkfjgjemiiaa
open Go.RowKit Go.BigFrame
theorem nil_beq_dec (v : List UInt8) : (v == []) = decide (v = []) := by cases v <;> simp
theorem noD_iff (d : DraftN) : d = noD ↔ d.kind = 0 ∧ d.key = [] ∧ d.val = [] ∧ d.ref = zeroI := by
  obtain ⟨a, b, c, r⟩ := d
  simp [noD]
set_option maxHeartbeats 4000000 in
set_option maxRecDepth 100000 in
theorem ref_good15 (e : EntN) (he : e.Len) (w : World) :
    Calls Try.prog 11 #[.agg (entV e)] w fun r w' => r = .returned (.bool (decide (GoodE e))) ∧ Below w.heap.size w w' := by
  have hx : Cells w.heap.size 30 (entV e) (w.alloc (.cells (entV e) 30)) := heap_alloc_new w _
  have hb : Below w.heap.size w (w.alloc (.cells (entV e) 30)) := (Below.refl _ _).alloc (Nat.le_refl _) _
  have HX := Lib.hid hx
  have HB := Lib.hid hb
  have HE := Lib.hid he
  have HGD := Lib.hid (fun w' => ref_goodDraft e.d he.ok.ref he.key he.val w')
  clear hx hb he
  obtain ⟨out, hout⟩ : ∃ b, decide (OutE e) = b := ⟨_, rfl⟩
  obtain ⟨non, hnon⟩ : ∃ b, decide (e.d = noD) = b := ⟨_, rfl⟩
  obtain ⟨bare, hbare⟩ : ∃ b, decide (BareE e) = b := ⟨_, rfl⟩
  obtain ⟨gd, hgd⟩ : ∃ b, decide (GoodD e.d) = b := ⟨_, rfl⟩
  have HO := Shut.mk hout
  have HN := Shut.mk hnon
  have HR := Shut.mk hbare
  have HG := Shut.mk hgd
  rw [hgd] at HGD
  clear hout hnon hbare hgd
  go_enter Try.func11, Try.ntmps11
  go_upto_region 1 with (fail)
  obtain ⟨w1, hw1⟩ : ∃ x, x = w.alloc (.cells (entV e) 30) := ⟨_, rfl⟩
  rw [← hw1] at HX HB ⊢
  clear hw1
  obtain ⟨c0, cd, cf, cq, cp, cm, cy, cs⟩ := ent_cells HE.out.ok HX.out
  obtain ⟨d0, d1, d2, d3⟩ := draft_mid cd
  have HCD := Lib.hid cd
  have HCP := Lib.hid cp
  have HD3 := Lib.hid d3
  have HSI := Lib.hid (show (Try.prog.info? 26).map (·.size) = some (nums .u8 e.d.ref).length by rw [nums_len, HE.out.ok.ref.1]; exact Try.sizeI)
  have HSP := Lib.hid (show (Try.prog.info? 26).map (·.size) = some (nums .u8 e.prev).length by rw [nums_len, HE.out.ok.prev.1]; exact Try.sizeI)
  have HSD := Lib.hid (show (Try.prog.info? 28).map (·.size) = some (draftL e.d).length by rw [draftL_len HE.out.ok.ref.1]; exact Try.sizeD)
  have heq := fun w' => equal_idI e.d.ref zeroI HE.out.ok.ref.1 zeroI_ok.1 HE.out.ok.ref.2 zeroI_ok.2 w'
  have hpq := fun w' => equal_idI e.prev zeroI HE.out.ok.prev.1 zeroI_ok.1 HE.out.ok.prev.2 zeroI_ok.2 w'
  rw [zeroI_lit] at heq hpq
  have HEQ := Lib.hid heq
  have HPQ := Lib.hid hpq
  clear cd cp d3 heq hpq
  obtain ⟨k, hk⟩ : ∃ x, e.kind = x := ⟨_, rfl⟩
  obtain ⟨dk, hdk⟩ : ∃ x, e.d.kind = x := ⟨_, rfl⟩
  obtain ⟨f, hf⟩ : ∃ x, e.src = x := ⟨_, rfl⟩
  obtain ⟨q, hq⟩ : ∃ x, e.seq = x := ⟨_, rfl⟩
  obtain ⟨m, hm⟩ : ∃ x, e.mask = x := ⟨_, rfl⟩
  obtain ⟨yl, hyl⟩ : ∃ n, e.pay.length = n := ⟨_, rfl⟩
  obtain ⟨sl, hsl⟩ : ∃ n, e.sig.length = n := ⟨_, rfl⟩
  have HOE := Shut.mk (show OutE e ↔ 1 ≤ m ∧ m ≤ 31 ∧ yl ≤ 2048 by rw [OutE, hm, hyl])
  have HNE := Shut.mk (show e.d = noD ↔ dk = 0 ∧ e.d.key = [] ∧ e.d.val = [] ∧ e.d.ref = zeroI by
    rw [← hdk]
    exact noD_iff e.d)
  have HBE := Shut.mk (show BareE e ↔ f = 0 ∧ q = 0 ∧ e.prev = zeroI ∧ e.sig = [] by rw [BareE, hf, hq])
  have HGE := Shut.mk (show GoodE e ↔ (k = 1 ∧ gd = true ∧ bare = true ∧ m = 0 ∧ e.pay = []) ∨ (k = 2 ∧ out = true ∧ non = true ∧ 0 ≤ f ∧ f ≤ 4 ∧ 1 ≤ q ∧ sl ≤ 1024) ∨ (k = 3 ∧ out = true ∧ non = true ∧ bare = true) by
    rw [GoodE, hk, hm, hf, hq, hsl, ← HO.out, ← HN.out, ← HR.out, ← HG.out]
    simp only [decide_eq_true_eq])
  rw [hk] at c0
  rw [hdk] at d0
  rw [hf] at cf
  rw [hq] at cq
  rw [hm] at cm
  clear hk hdk hf hq hm
  go_cut [3] from 6 to 20 (fun s wx => s = .bool out ∧ wx = w1)
  case first =>
    by_cases h1 : 1 ≤ m
    · have g1 : decide (1 ≤ m) = true := decide_eq_true h1
      by_cases h2 : m ≤ 31
      · have g2 : decide (m ≤ 31) = true := decide_eq_true h2
        by_cases h3 : yl ≤ 2048
        · have g3 : decide ((yl : Int) ≤ 2048) = true := decide_eq_true (by omega)
          go_wp2_with fail
          go_meet
          case rel => exact ⟨by rw [← HO.out, decide_eq_true (HOE.out.2 ⟨h1, h2, h3⟩)], rfl⟩
        · have g3 : decide ((yl : Int) ≤ 2048) = false := decide_eq_false (by omega)
          go_wp2_with fail
          go_meet
          case rel => exact ⟨by rw [← HO.out, decide_eq_false (fun h => by have := (HOE.out.1 h).2.2; omega)], rfl⟩
      · have g2 : decide (m ≤ 31) = false := decide_eq_false h2
        go_wp2_with fail
        go_meet
        case rel => exact ⟨by rw [← HO.out, decide_eq_false (fun h => by have := (HOE.out.1 h).2.1; omega)], rfl⟩
    · have g1 : decide (1 ≤ m) = false := decide_eq_false h1
      go_wp2_with fail
      go_meet
      case rel => exact ⟨by rw [← HO.out, decide_eq_false (fun h => by have := (HOE.out.1 h).1; omega)], rfl⟩
  case rest =>
  obtain ⟨rfl, hwc⟩ := hcut
  rw [hwc]
  clear hwc
  clear HOE
  obtain ⟨kb, hkb⟩ : ∃ b, (e.d.key == []) = b := ⟨_, rfl⟩
  obtain ⟨vb, hvb⟩ : ∃ b, (e.d.val == []) = b := ⟨_, rfl⟩
  obtain ⟨sb, hsb⟩ : ∃ b, (e.sig == []) = b := ⟨_, rfl⟩
  obtain ⟨yb, hyb⟩ : ∃ b, (e.pay == []) = b := ⟨_, rfl⟩
  obtain ⟨rb, hrb⟩ : ∃ b, (e.d.ref == zeroI) = b := ⟨_, rfl⟩
  obtain ⟨pb, hpb⟩ : ∃ b, (e.prev == zeroI) = b := ⟨_, rfl⟩
  have HNB := Shut.mk (show non = (decide (dk = 0) && kb && vb && rb) by
    rw [← HN.out, ← hkb, ← hvb, ← hrb, nil_beq_dec, nil_beq_dec, Bool.eq_iff_iff]
    simp only [decide_eq_true_eq, Bool.and_eq_true, beq_iff_eq]
    rw [HNE.out]
    exact ⟨fun ⟨a, b, c, d⟩ => ⟨⟨⟨a, b⟩, c⟩, d⟩, fun ⟨⟨⟨a, b⟩, c⟩, d⟩ => ⟨a, b, c, d⟩⟩)
  have HBB := Shut.mk (show bare = (decide (f = 0) && decide (q = 0) && pb && sb) by
    rw [← HR.out, ← hpb, ← hsb, nil_beq_dec, Bool.eq_iff_iff]
    simp only [decide_eq_true_eq, Bool.and_eq_true, beq_iff_eq]
    rw [HBE.out]
    exact ⟨fun ⟨a, b, c, d⟩ => ⟨⟨⟨a, b⟩, c⟩, d⟩, fun ⟨⟨⟨a, b⟩, c⟩, d⟩ => ⟨a, b, c, d⟩⟩)
  have HYB := Shut.mk hyb
  rw [hrb] at HEQ
  rw [hpb] at HPQ
  clear HNE HBE hrb hpb
  go_upto_region 2 with (fail)
  go_cut [4] from 20 to 43 (fun s wx => s = .bool non ∧ wx = w1)
  case first =>
    have heq := HEQ.out
    by_cases h1 : dk = 0
    · have g1 : (dk == 0) = true := by simp [h1]
      rw [decide_eq_true h1, Bool.true_and] at HNB
      cases kb with
      | false =>
        go_wp2_with fail
        go_meet
        case rel => exact ⟨by rw [HNB.out]; rfl, rfl⟩
      | true =>
        cases vb with
        | false =>
          go_wp2_with fail
          go_meet
          case rel => exact ⟨by rw [HNB.out]; rfl, rfl⟩
        | true =>
          go_wp2_with (refine wpList_load_mid_want (by rfl) 26 _ rfl w.heap.size 4 rfl _ _ HD3.out Try.underlying26 rfl HSI.out ?_)
          go_meet
          case rel => exact ⟨by rw [HNB.out]; rfl, rfl⟩
    · have g1 : (dk == 0) = false := by simp [h1]
      rw [decide_eq_false h1] at HNB
      go_wp2_with fail
      go_meet
      case rel => exact ⟨by rw [HNB.out]; rfl, rfl⟩
  case rest =>
  obtain ⟨rfl, hwc⟩ := hcut
  rw [hwc]
  clear hwc HNB HEQ HD3 HSI
  go_upto_region 3 with (fail)
  go_cut [5] from 43 to 62 (fun s wx => s = .bool bare ∧ wx = w1)
  case first =>
    have heq := HPQ.out
    by_cases h1 : f = 0
    · have g1 : (f == 0) = true := by simp [h1]
      rw [decide_eq_true h1, Bool.true_and] at HBB
      by_cases h2 : q = 0
      · have g2 : (q == 0) = true := by simp [h2]
        rw [decide_eq_true h2, Bool.true_and] at HBB
        cases pb with
        | false =>
          go_wp2_with (refine wpList_load_mid_want (by rfl) 26 _ rfl w.heap.size 38 rfl _ _ HCP.out Try.underlying26 rfl HSP.out ?_)
          go_meet
          case rel => exact ⟨by rw [HBB.out]; rfl, rfl⟩
        | true =>
          go_wp2_with (refine wpList_load_mid_want (by rfl) 26 _ rfl w.heap.size 38 rfl _ _ HCP.out Try.underlying26 rfl HSP.out ?_)
          go_meet
          case rel => exact ⟨by rw [HBB.out]; rfl, rfl⟩
      · have g2 : (q == 0) = false := by simp [h2]
        rw [decide_eq_false h2] at HBB
        go_wp2_with fail
        go_meet
        case rel => exact ⟨by rw [HBB.out]; rfl, rfl⟩
    · have g1 : (f == 0) = false := by simp [h1]
      rw [decide_eq_false h1] at HBB
      go_wp2_with fail
      go_meet
      case rel => exact ⟨by rw [HBB.out]; rfl, rfl⟩
  case rest =>
  obtain ⟨rfl, hwc⟩ := hcut
  rw [hwc]
  clear hwc HBB HPQ HCP HSP
  by_cases h1 : k = 1
  · have g1 : (k == 1) = true := by simp [h1]
    have HZ := Shut.mk (show decide (GoodE e) = (gd && bare && decide (m = 0) && yb) by
      rw [← HYB.out, nil_beq_dec, Bool.eq_iff_iff]
      simp only [decide_eq_true_eq, Bool.and_eq_true]
      rw [HGE.out]
      constructor
      · rintro (⟨_, a, b, c, d⟩ | ⟨h, _⟩ | ⟨h, _⟩)
        · exact ⟨⟨⟨a, b⟩, c⟩, d⟩
        · omega
        · omega
      · rintro ⟨⟨⟨a, b⟩, c⟩, d⟩
        exact .inl ⟨h1, a, b, c, d⟩)
    clear h1
    go_wp2_with (refine wpList_load_mid rfl 28 _ rfl w.heap.size 1 rfl _ _ HCD.out Try.underlying28 rfl HSD.out ?_)
    refine (HGD.out w1).mono ?_
    rintro r w2 ⟨rfl, hb⟩
    have HB2 := Lib.hid (HB.out.trans (hb.mono HB.out.size))
    have hg := HX.out.lt
    have cm2 := (hb.cell (p := ⟨w.heap.size, 70, none⟩) hg).trans cm
    have cy2 := (hb.cell (p := ⟨w.heap.size, 71, none⟩) hg).trans cy
    clear hb HB hg cm cy
    cases gd with
    | false =>
      go_wp2_with fail
      go_ret
      exact ⟨by rw [HZ.out]; rfl, HB2.out⟩
    | true =>
      cases bare with
      | false =>
        go_wp2_with fail
        go_ret
        exact ⟨by rw [HZ.out]; rfl, HB2.out⟩
      | true =>
        by_cases h2 : m = 0
        · have g2 : (m == 0) = true := by simp [h2]
          rw [decide_eq_true h2] at HZ
          go_wp2_with fail
          go_ret
          exact ⟨by rw [HZ.out]; rfl, HB2.out⟩
        · have g2 : (m == 0) = false := by simp [h2]
          rw [decide_eq_false h2] at HZ
          go_wp2_with fail
          go_ret
          exact ⟨by rw [HZ.out]; rfl, HB2.out⟩
  have g1 : (k == 1) = false := by simp [h1]
  by_cases h2 : k = 2
  · have g2 : (k == 2) = true := by simp [h2]
    have HZ := Shut.mk (show decide (GoodE e) = (out && non && decide (0 ≤ f) && decide (f ≤ 4) && decide (1 ≤ q) && decide ((sl : Int) ≤ 1024)) by
      rw [Bool.eq_iff_iff]
      simp only [decide_eq_true_eq, Bool.and_eq_true]
      rw [HGE.out]
      constructor
      · rintro (⟨h, _⟩ | ⟨_, a, b, c, d, x, y⟩ | ⟨h, _⟩)
        · omega
        · exact ⟨⟨⟨⟨⟨a, b⟩, c⟩, d⟩, x⟩, by omega⟩
        · omega
      · rintro ⟨⟨⟨⟨⟨a, b⟩, c⟩, d⟩, x⟩, y⟩
        exact .inr (.inl ⟨h2, a, b, c, d, x, by omega⟩))
    clear h1 h2
    obtain ⟨b1, hb1⟩ : ∃ b, decide (0 ≤ f) = b := ⟨_, rfl⟩
    obtain ⟨b2, hb2⟩ : ∃ b, decide (f ≤ 4) = b := ⟨_, rfl⟩
    obtain ⟨b3, hb3⟩ : ∃ b, decide (1 ≤ q) = b := ⟨_, rfl⟩
    obtain ⟨b4, hb4⟩ : ∃ b, decide ((sl : Int) ≤ 1024) = b := ⟨_, rfl⟩
    rw [hb1, hb2, hb3, hb4] at HZ
    cases out with
    | false =>
      go_wp2_with fail
      go_ret
      exact ⟨by rw [HZ.out]; rfl, HB.out⟩
    | true =>
    cases non with
    | false =>
      go_wp2_with fail
      go_ret
      exact ⟨by rw [HZ.out]; rfl, HB.out⟩
    | true =>
    cases b1 with
    | false =>
      go_wp2_with fail
      go_ret
      exact ⟨by rw [HZ.out]; rfl, HB.out⟩
    | true =>
    cases b2 with
    | false =>
      go_wp2_with fail
      go_ret
      exact ⟨by rw [HZ.out]; rfl, HB.out⟩
    | true =>
    cases b3 with
    | false =>
      go_wp2_with fail
      go_ret
      exact ⟨by rw [HZ.out]; rfl, HB.out⟩
    | true =>
    cases b4 with
    | false =>
      go_wp2_with fail
      go_ret
      exact ⟨by rw [HZ.out]; rfl, HB.out⟩
    | true =>
      go_wp2_with fail
      go_ret
      exact ⟨by rw [HZ.out]; rfl, HB.out⟩
  have g2 : (k == 2) = false := by simp [h2]
  have HZ := Shut.mk (show decide (GoodE e) = (decide (k = 3) && out && non && bare) by
    rw [Bool.eq_iff_iff]
    simp only [decide_eq_true_eq, Bool.and_eq_true]
    rw [HGE.out]
    constructor
    · rintro (⟨h, _⟩ | ⟨h, _⟩ | ⟨a, b, c, d⟩)
      · omega
      · omega
      · exact ⟨⟨⟨a, b⟩, c⟩, d⟩
    · rintro ⟨⟨⟨a, b⟩, c⟩, d⟩
      exact .inr (.inr ⟨a, b, c, d⟩))
  by_cases h3 : k = 3
  · have g3 : (k == 3) = true := by simp [h3]
    rw [decide_eq_true h3] at HZ
    clear h1 h2 h3
    cases out with
    | false =>
      go_wp2_with fail
      go_ret
      exact ⟨by rw [HZ.out]; rfl, HB.out⟩
    | true =>
    cases non with
    | false =>
      go_wp2_with fail
      go_ret
      exact ⟨by rw [HZ.out]; rfl, HB.out⟩
    | true =>
      go_wp2_with fail
      go_ret
      exact ⟨by rw [HZ.out]; rfl, HB.out⟩
  · have g3 : (k == 3) = false := by simp [h3]
    rw [decide_eq_false h3] at HZ
    clear h1 h2 h3
    go_wp2_with fail
    go_ret
    exact ⟨by rw [HZ.out]; rfl, HB.out⟩
end Go.Proofs.Ytenmkfjgjemiiaa
namespace Go.Proofs.Ytenmkfjgjemiiaa.entryOne
open Go.RowKit Go.BigFrame Go.Proofs.Ytenmkfjgjemiiaa
set_option maxHeartbeats 8000000 in
set_option maxRecDepth 100000 in
theorem walk (w : World) (a : EntN) (ha : a.In) (b : EntN) (hb : b.In) :
    Calls Try.prog 6 #[.agg (entV a), .agg (entV b)] w fun e w' => e = .returned (.bool true) ∧ Below w.heap.size w w' := by
  have hx : Cells w.heap.size 30 (entV a) (w.alloc (.cells (entV a) 30)) := heap_alloc_new w _
  have hy : Cells (w.heap.size + 1) 30 (entV b) ((w.alloc (.cells (entV a) 30)).alloc (.cells (entV b) 30)) := by
    have := heap_alloc_new (w.alloc (.cells (entV a) 30)) (.cells (entV b) 30)
    rw [World.size_alloc] at this
    exact this
  have hx2 := hx.alloc (.cells (entV b) 30)
  have hbw : Below w.heap.size w ((w.alloc (.cells (entV a) 30)).alloc (.cells (entV b) 30)) := ((Below.refl _ _).alloc (Nat.le_refl _) _).alloc (by rw [World.size_alloc]; exact Nat.le_succ _) _
  have HA := Lib.hid ha.len
  have HB := Lib.hid hb.len
  have HFA := Lib.hid ha.fit
  have HFB := Lib.hid hb.fit
  have HSA := Lib.hid (sizeEV ha.ok)
  have HSB := Lib.hid (sizeEV hb.ok)
  have HGA := Lib.hid (fun w' => great15_any a HA.out w')
  have HGB := Lib.hid (fun w' => great15_any b HB.out w')
  have HRA := Lib.hid (fun w' => ref_good15 a HA.out w')
  have HRB := Lib.hid (fun w' => ref_good15 b HB.out w')
  have HTA := Lib.hid (fun w' => dev_text15 a HA.out HFA.out.seq w')
  have HTB := Lib.hid (fun w' => dev_text15 b HB.out HFB.out.seq w')
  go_enter Try.func6, Try.ntmps6
  go_upto_region 1 with (fail)
  obtain ⟨w1, hw1⟩ : ∃ x, x = (w.alloc (.cells (entV a) 30)).alloc (.cells (entV b) 30) := ⟨_, rfl⟩
  obtain ⟨gb, hgb⟩ : ∃ g, w.heap.size + 1 = g := ⟨_, rfl⟩
  rw [← hw1] at hx2 hy hbw ⊢
  rw [hgb] at hy ⊢
  have HX1 := Lib.hid hx2
  have HY1 := Lib.hid hy
  have HW1 := Lib.hid hbw
  clear hx hx2 hy hbw hw1 ha hb hgb
  go_wp2_with fail
  refine (alive15_any w1).mono ?_
  rintro e w2 ⟨rfl, hb⟩
  have HX2 := Lib.hid (HX1.out.below hb)
  have HY2 := Lib.hid (HY1.out.below hb)
  have HW2 := Lib.hid (HW1.out.trans (hb.mono HW1.out.size))
  clear hb HX1 HY1 HW1
  obtain ⟨ga, hga⟩ : ∃ g, great15N a = g := ⟨_, rfl⟩
  obtain ⟨gc, hgc⟩ : ∃ g, great15N b = g := ⟨_, rfl⟩
  obtain ⟨ra, hra⟩ : ∃ g, decide (GoodE a) = g := ⟨_, rfl⟩
  obtain ⟨rb, hrb⟩ : ∃ g, decide (GoodE b) = g := ⟨_, rfl⟩
  rw [hga] at HGA
  rw [hgc] at HGB
  rw [hra] at HRA
  rw [hrb] at HRB
  have HDA := Shut.mk hra
  have HDB := Shut.mk hrb
  clear hga hgc hra hrb
  go_wp2_with (refine wpList_load_cells rfl 30 _ rfl w.heap.size (entV a) 30 _ rfl HX2.out Try.underlying30 rfl HSA.out ?_)
  refine (HGA.out w2).mono ?_
  rintro e w3 ⟨rfl, hb⟩
  have HX3 := Lib.hid (HX2.out.below hb)
  have HY3 := Lib.hid (HY2.out.below hb)
  have HW3 := Lib.hid (HW2.out.trans (hb.mono HW2.out.size))
  clear hb HX2 HY2 HW2 HGA
  cases ga with
  | true =>
    go_wp2_with fail
    go_ret
    exact ⟨rfl, HW3.out⟩
  | false =>
  go_wp2_with (refine wpList_load_cells_want (by rfl) 30 _ rfl gb (entV b) 30 _ rfl HY3.out Try.underlying30 rfl HSB.out ?_)
  refine (HGB.out w3).mono ?_
  rintro e w4 ⟨rfl, hb⟩
  have HX4 := Lib.hid (HX3.out.below hb)
  have HY4 := Lib.hid (HY3.out.below hb)
  have HW4 := Lib.hid (HW3.out.trans (hb.mono HW3.out.size))
  clear hb HX3 HY3 HW3 HGB
  cases gc with
  | true =>
    go_wp2_with fail
    go_ret
    exact ⟨rfl, HW4.out⟩
  | false =>
  go_wp2_with (refine wpList_load_cells_want (by rfl) 30 _ rfl w.heap.size (entV a) 30 _ rfl HX4.out Try.underlying30 rfl HSA.out ?_)
  refine (HRA.out w4).mono ?_
  rintro e w5 ⟨rfl, hb⟩
  have HX5 := Lib.hid (HX4.out.below hb)
  have HY5 := Lib.hid (HY4.out.below hb)
  have HW5 := Lib.hid (HW4.out.trans (hb.mono HW4.out.size))
  clear hb HX4 HY4 HW4 HRA
  cases ra with
  | false =>
    go_wp2_with fail
    go_ret
    exact ⟨rfl, HW5.out⟩
  | true =>
  go_wp2_with (refine wpList_load_cells_want (by rfl) 30 _ rfl gb (entV b) 30 _ rfl HY5.out Try.underlying30 rfl HSB.out ?_)
  refine (HRB.out w5).mono ?_
  rintro e w6 ⟨rfl, hb⟩
  have HX6 := Lib.hid (HX5.out.below hb)
  have HY6 := Lib.hid (HY5.out.below hb)
  have HW6 := Lib.hid (HW5.out.trans (hb.mono HW5.out.size))
  clear hb HX5 HY5 HW5 HRB
  cases rb with
  | false =>
    go_wp2_with fail
    go_ret
    exact ⟨rfl, HW6.out⟩
  | true =>
  have HQ := Lib.hid (fun w' => eql_ent a b HA.out.ok HB.out.ok w')
  have HQG := Lib.hid (fun x y w => guard_ent .eql (.inl rfl) x y (entV a) (entV b) w)
  obtain ⟨z, hz⟩ : ∃ z, decide (a = b) = z := ⟨_, rfl⟩
  have hT : (entB a == entB b) = z := by
    rw [← hz, Bool.eq_iff_iff, beq_iff_eq, decide_eq_true_eq]
    exact ⟨entB_inj HFA.out HFB.out (of_decide_eq_true HDA.out) (of_decide_eq_true HDB.out), fun h => by rw [h]⟩
  rw [hz] at HQ
  obtain ⟨TA, hTA⟩ : ∃ T, entB a = T := ⟨_, rfl⟩
  obtain ⟨TB, hTB⟩ : ∃ T, entB b = T := ⟨_, rfl⟩
  rw [hTA] at HTA hT
  rw [hTB] at HTB hT
  have HLA := Lib.hid (fun (w' : World) (q : Below w6.heap.size w6 w') => HX6.out.below q)
  have HLB := Lib.hid (fun (w' : World) (q : Below w6.heap.size w6 w') => HY6.out.below q)
  have HTT := Lib.hid (show ∀ w', (binOp .eql 9 (.string ⟨TA.toArray⟩) (.string ⟨TB.toArray⟩)).run Try.prog w' = .ok (.bool z) w' from fun w' => by
    rw [← hT]
    go_simp)
  clear hz hTA hTB hT HDA HDB HX6 HY6
  go_upto_region 5 with (fail)
  refine wp_region_class (fun w' => Below w6.heap.size w6 w') (by kernel_rfl) (by kernel_rfl) (Below.refl _ _).drew ?_
  repeat (first
    | go_big_quiet_skip
    | (go_big_quiet_want; refine quiet_load_cells 30 _ rfl w.heap.size (entV a) 30 _ rfl HLA.out Try.underlying30 rfl HSA.out ?_; go_big_quiet_on; simp only [Act.put, List.setIfInBounds_toArray, List.set_cons_zero, List.set_cons_succ])
    | (go_big_quiet_want; refine quiet_load_cells 30 _ rfl gb (entV b) 30 _ rfl HLB.out Try.underlying30 rfl HSB.out ?_; go_big_quiet_on; simp only [Act.put, List.setIfInBounds_toArray, List.set_cons_zero, List.set_cons_succ])
    | (go_big_quiet_want; refine quiet_bin .eql 30 _ _ _ rfl (.agg (entV a)) (.agg (entV b)) _ rfl rfl (HQG.out _ _) HQ.out ?_; go_big_quiet_on; simp only [Act.put, List.setIfInBounds_toArray, List.set_cons_zero, List.set_cons_succ])
    | (go_big_quiet_want; refine quiet_bin .eql 9 _ _ _ rfl (.string ⟨TA.toArray⟩) (.string ⟨TB.toArray⟩) _ rfl rfl (fun _ => rfl) HTT.out ?_; go_big_quiet_on; simp only [Act.put, List.setIfInBounds_toArray, List.set_cons_zero, List.set_cons_succ])
    | go_big_quiet_step ((intro hs'; first
        | (go_at_call_of 12 (Value.agg (entV a)); exact (HTA.out _).mono fun e w' h => ⟨h.1, hs'.trans (h.2.mono hs'.size)⟩)
        | (go_at_call_of 12 (Value.agg (entV b)); exact (HTB.out _).mono fun e w' h => ⟨h.1, hs'.trans (h.2.mono hs'.size)⟩)
        | rfl)))
  refine wpQuiet_nil ?_
  intro w7 hs
  have HW7 := Lib.hid (HW6.out.trans (hs.mono HW6.out.size))
  clear hs
  go_wp2_with fail
  go_ret
  exact ⟨rfl, HW7.out⟩
end Go.Proofs.Ytenmkfjgjemiiaa.entryOne
namespace Go.Proofs.Ytenmkfjgjemiiaa.entryOne
open Go.ChangeShapes Go.WideShapes Go.ChangeAt Go.RowKit
open Go.ChangeMaps (open_string shut_string)
set_option linter.unusedVariables false
set_option maxRecDepth 100000 in
theorem lifted (os : Os) (started : os.Started) (H : Type) (enc : TypeId × Value → H) :
    ReturnsInHanded {} Try.checked os 6 .any (Rows.entryOneSpec.pre6 enc Try.prog Try.f6 Rows.entryOneRow.domain false) (Rows.entryOneSpec.post enc Try.prog Try.f6 false true false false) := by
  refine returnsInHanded_of_change_sized (C := Try.checked) law_own started (by kernel_rfl) Try.func6
    (ChangeSpec.witness6 (enc := enc) (C := Try.checked) false ⟨#[], #[.agg (entV noE), .agg (entV noE)], []⟩ 8 (by kernel_rfl) (by kernel_rfl) (by kernel_rfl) (by kernel_rfl)) ?_
  intro W base args ds gs before hval0 hW hcnd hsz0 _
  have hsz : (DataW.weightsEach Try.prog (Try.f6.params.toList ++ Rows.entryOneSpec.plain.varTypes Try.prog) (ds ++ gs)).all (· ≤ reachBytes) = true := hsz0
  have hval : ∀ (j : Nat) t v, Try.f6.params[j]? = some t → args[j]? = some v → Value.okWide Try.prog W .any base t v := hval0
  have hW' := hW
  obtain ⟨p, q, hA0, hV, rfl, hfz, hnd⟩ := hW
  have hA : DataW.TrodAll enc Try.prog W 0 (fun _ => true) true Try.f6.params.toList args.toList ds p := hA0
  rw [Try.params6] at hA hval hsz
  obtain ⟨v0, vs0, d0, ds0, p0, q0, hargs, rfl, rfl, h0, r0⟩ := trodAll_cons hA
  obtain ⟨v1, vs1, d1, ds1, p1, q1, rfl, rfl, rfl, h1, r1⟩ := trodAll_cons r0
  obtain ⟨rfl, rfl, rfl⟩ := trodAll_nil r1
  obtain rfl : args = #[v0, v1] := by cases args; simp_all
  obtain ⟨rfl, rfl⟩ := trodVars_none hV
  have k0 := h0
  have lt0 : ∀ x ∈ p0, x.block < W.heap.size := by obtain ⟨m, hm⟩ := k0; exact DataW.trod_lt m _ _ _ hm
  have z0 : ∀ n ∈ DataW.weights Try.prog 30 d0, n ≤ 140737488351232 := fun n hn => of_decide_eq_true (List.all_eq_true.1 hsz n (DataW.weights_mem_each (j := 0) (t := 30) rfl rfl n hn))
  obtain ⟨x0, rfl, n0⟩ := open_ent (hval 0 30 v0 rfl rfl) h0 z0
  have k1 := h1
  have lt1 : ∀ x ∈ p1, x.block < W.heap.size := by obtain ⟨m, hm⟩ := k1; exact DataW.trod_lt m _ _ _ hm
  have z1 : ∀ n ∈ DataW.weights Try.prog 30 d1, n ≤ 140737488351232 := fun n hn => of_decide_eq_true (List.all_eq_true.1 hsz n (DataW.weights_mem_each (j := 1) (t := 30) rfl rfl n hn))
  obtain ⟨x1, rfl, n1⟩ := open_ent (hval 1 30 v1 rfl rfl) h1 z1
  clear hA0 hval0
  refine (walk W x0 n0 x1 n1).mono fun e W' ⟨he, bel⟩ => ?_
  subst he
  exact ⟨_, rfl, _, _, _, [], _, [], hW', trodAll_mk1 (shut_bool Try.underlying4 _), (trodAll_cons_mk (Below.trod law_laidOut (by kernel_rfl) (of_decide_eq_true (by kernel_rfl)) k0 bel lt0) (trodAll_cons_mk (Below.trod law_laidOut (by kernel_rfl) (of_decide_eq_true (by kernel_rfl)) k1 bel lt1) trodAll_mk0)), rfl, bel.frame _, fun h => by cases h⟩
theorem proved : Rows.EntryOneSaid :=
  OpenClaim.holds_of_wide 6 Try.f6 rfl rfl rfl rfl rfl rfl rfl ⟨rfl, rfl, rfl, rfl, rfl⟩ rfl rfl rfl rfl rfl (by kernel_rfl) Try.func6 (by kernel_rfl)
    (of_decide_eq_true (by kernel_rfl)) (by unfold Func.isWrapper; first | (rw [if_pos (by decide +kernel)]; kernel_rfl) | (rw [if_neg (by decide +kernel)]; exact ⟨rfl, rfl⟩))
    (fun os started H enc _ => lifted os started H enc)
#print axioms proved
end Go.Proofs.Ytenmkfjgjemiiaa.entryOne
