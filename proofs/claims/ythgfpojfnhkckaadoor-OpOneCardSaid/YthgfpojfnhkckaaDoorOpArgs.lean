/-
  Drafts, operations, rows of operations that came in.
-/
import Derived.Test.YthgfpojfnhkckaaDoorOpRow
import Derived.Test.YthgfpojfnhkckaaDoorArgs
import Derived.Deep.Slices
import Derived.OpenShut
namespace Go.Proofs.YthgfpojfnhkckaaDoor
open Go.RowKit Go.ChangeShapes Go.WideShapes Go.Deep

/-- What a draft that came in is. -/
structure DraftN.In (d : DraftN) : Prop where
  ref : IdOk d.ref
  low : -9223372036854775808 ≤ d.kind
  high : d.kind ≤ 9223372036854775807
  key : d.key.length ≤ 140737488351232
  val : d.val.length ≤ 140737488351232
/-- What an operation that came in is. -/
structure OpN.In (o : OpN) : Prop where
  d : o.d.In
  alow : -9223372036854775808 ≤ o.author
  ahigh : o.author ≤ 9223372036854775807
  dlow : -9223372036854775808 ≤ o.depth
  dhigh : o.depth ≤ 9223372036854775807
  preds : ∀ p ∈ o.preds, IdOk p
  many : o.preds.length ≤ 4398046510976
theorem OpN.In.ok {o : OpN} (h : o.In) : o.Ok := ⟨h.d.ref, h.preds⟩
theorem weights_one {H : Type} {P : Program} {t : TypeId} (bs : List UInt8) : DataW.weights (H := H) P t (.lit (.string bs)) = [bs.length] := by simp [DataW.weights]

set_option maxRecDepth 100000 in
theorem open_draft_cells {H : Type} {enc : TypeId × Value → H} {W : World} {n : Nat} {cs : List Value} {x : DataW H × List MemPlace}
    (h : DataW.trod enc Tryd.prog W 0 (fun _ => true) true n 27 cs = some x) (hwt : ∀ n ∈ DataW.weights Tryd.prog 27 x.1, n ≤ 140737488351232) :
    ∃ d : DraftN, cs = draftL d ∧ d.In := by
  obtain ⟨xs, m, _, hx, hcl, hxl, hf⟩ := DataW.trod_struct Tryd.underlying27 h
  have hci : Tryd.prog.cellsOf 3 = 1 := by kernel_rfl
  have hcs : Tryd.prog.cellsOf 9 = 1 := by kernel_rfl
  have hcr : Tryd.prog.cellsOf 25 = 32 := by kernel_rfl
  have hcd : Tryd.prog.cellsOf 27 = 35 := by kernel_rfl
  have hcu : Tryd.prog.cellsOf 5 = 1 := by kernel_rfl
  rw [hcd] at hcl
  match cs, hcl with
  | v0 :: v1 :: v2 :: r, hcl =>
  match xs, hxl with
  | [x0, x1, x2, x3], _ =>
  have t0 : DataW.trod enc Tryd.prog W 0 (fun _ => true) true m 3 ((v0 :: v1 :: v2 :: r).take (Tryd.prog.cellsOf 3)) = some x0 := hf 0 _ rfl
  have t1 : DataW.trod enc Tryd.prog W 0 (fun _ => true) true m 9 (((v0 :: v1 :: v2 :: r).drop 1).take (Tryd.prog.cellsOf 9)) = some x1 := hf 1 _ rfl
  have t2 : DataW.trod enc Tryd.prog W 0 (fun _ => true) true m 9 (((v0 :: v1 :: v2 :: r).drop 2).take (Tryd.prog.cellsOf 9)) = some x2 := hf 2 _ rfl
  have t3 : DataW.trod enc Tryd.prog W 0 (fun _ => true) true m 25 (((v0 :: v1 :: v2 :: r).drop 3).take (Tryd.prog.cellsOf 25)) = some x3 := hf 3 _ rfl
  rw [hci] at t0
  rw [hcs] at t1 t2
  rw [hcr] at t3
  simp only [List.drop_succ_cons, List.drop_zero, List.take_succ_cons, List.take_zero] at t0 t1 t2
  rw [show (v0 :: v1 :: v2 :: r).drop 3 = r from rfl, List.take_of_length_le (by simp only [List.length_cons] at hcl; omega)] at t3
  obtain ⟨k, e0, _, w0⟩ := DataW.trod_int Tryd.underlying3 t0
  obtain ⟨s1, e1, d1, _⟩ := DataW.trod_string Tryd.underlying9 t1
  obtain ⟨s2, e2, d2, _⟩ := DataW.trod_string Tryd.underlying9 t2
  obtain ⟨l, e3, h3, h4⟩ := trod_bytesI Tryd.underlying25 Tryd.underlying5 hcu hcr t3
  have hx1 : x.1 = .agg [x0.1, x1.1, x2.1, x3.1] := congrArg Prod.fst hx
  rw [hx1] at hwt
  simp only [DataW.weights, Tryd.underlying27] at hwt
  have q1 : s1.data.toList.length ≤ 140737488351232 := hwt _ (by
    simp only [List.map_cons, List.map_nil, DataW.weightsEach, List.mem_append, d1, weights_one, List.mem_singleton]
    exact .inr (.inl trivial))
  have q2 : s2.data.toList.length ≤ 140737488351232 := hwt _ (by
    simp only [List.map_cons, List.map_nil, DataW.weightsEach, List.mem_append, d2, weights_one, List.mem_singleton]
    exact .inr (.inr (.inl trivial)))
  simp only [List.cons.injEq, and_true] at e0 e1 e2
  simp only [Lit.wf, Bool.and_eq_true, decide_eq_true_eq] at w0
  refine ⟨⟨k, s1.data.toList, s2.data.toList, l⟩, ?_, ⟨h3, h4⟩, w0.1, w0.2, q1, q2⟩
  rw [e0, e1, e2, e3]
  rfl
set_option maxRecDepth 100000 in
theorem open_op_cells {H : Type} {enc : TypeId × Value → H} {W : World} {n : Nat} {cs : List Value} {x : DataW H × List MemPlace}
    (h : DataW.trod enc Tryd.prog W 0 (fun _ => true) true n 30 cs = some x) (hwt : ∀ n ∈ DataW.weights Tryd.prog 30 x.1, n ≤ 140737488351232) :
    ∃ (o : OpN) (pa : Option Addr) (pc : Nat), cs = opL o pa pc ∧ o.In ∧ IAt pa o.preds W := by
  obtain ⟨xs, m, _, hx, hcl, hxl, hf⟩ := DataW.trod_struct Tryd.underlying30 h
  have hci : Tryd.prog.cellsOf 3 = 1 := by kernel_rfl
  have hcd : Tryd.prog.cellsOf 27 = 35 := by kernel_rfl
  have hco : Tryd.prog.cellsOf 30 = 38 := by kernel_rfl
  have hcp : Tryd.prog.cellsOf 28 = 1 := by kernel_rfl
  rw [hco] at hcl
  match xs, hxl with
  | [x0, x1, x2, x3], _ =>
  have t0 : DataW.trod enc Tryd.prog W 0 (fun _ => true) true m 27 ((cs.drop 0).take (Tryd.prog.cellsOf 27)) = some x0 := hf 0 _ rfl
  have t1 : DataW.trod enc Tryd.prog W 0 (fun _ => true) true m 3 ((cs.drop 35).take (Tryd.prog.cellsOf 3)) = some x1 := hf 1 _ rfl
  have t2 : DataW.trod enc Tryd.prog W 0 (fun _ => true) true m 3 ((cs.drop 36).take (Tryd.prog.cellsOf 3)) = some x2 := hf 2 _ rfl
  have t3 : DataW.trod enc Tryd.prog W 0 (fun _ => true) true m 28 ((cs.drop 37).take (Tryd.prog.cellsOf 28)) = some x3 := hf 3 _ rfl
  rw [hcd, List.drop_zero] at t0
  rw [hci] at t1 t2
  rw [hcp] at t3
  have hx1 : x.1 = .agg [x0.1, x1.1, x2.1, x3.1] := congrArg Prod.fst hx
  rw [hx1] at hwt
  simp only [DataW.weights, Tryd.underlying30] at hwt
  obtain ⟨d, e0, hd⟩ := open_draft_cells t0 (fun q hq => hwt q (by
    simp only [List.map_cons, List.map_nil, DataW.weightsEach, List.mem_append]
    exact .inl hq))
  obtain ⟨a, e1, _, w1⟩ := DataW.trod_int Tryd.underlying3 t1
  obtain ⟨b, e2, _, w2⟩ := DataW.trod_int Tryd.underlying3 t2
  obtain ⟨v3, e3⟩ : ∃ v, (cs.drop 37).take 1 = [v] := by
    have hl : ((cs.drop 37).take 1).length = 1 := by rw [List.length_take, List.length_drop]; omega
    match (cs.drop 37).take 1, hl with
    | [v], _ => exact ⟨v, rfl⟩
  rw [e3] at t3
  obtain ⟨pa, L, pc, e4, h1, h2, h3, _⟩ := open_ids_row Tryd.underlying28 Tryd.underlying25 Tryd.underlying5 (by kernel_rfl) (by kernel_rfl) (by kernel_rfl) t3 (fun q hq => hwt q (by
    simp only [List.map_cons, List.map_nil, DataW.weightsEach, List.mem_append]
    exact .inr (.inr (.inr (.inl hq)))))
  simp only [Lit.wf, Bool.and_eq_true, decide_eq_true_eq] at w1 w2
  refine ⟨⟨d, a, b, L⟩, pa, pc, ?_, ⟨hd, w1.1, w1.2, w2.1, w2.2, h2, h3⟩, h1⟩
  have hsplit : cs = cs.take 35 ++ ((cs.drop 35).take 1 ++ ((cs.drop 36).take 1 ++ (cs.drop 37).take 1)) := by
    have h36 : cs.drop 36 = (cs.drop 35).drop 1 := by rw [List.drop_drop]
    have h37 : cs.drop 37 = (cs.drop 36).drop 1 := by rw [List.drop_drop]
    have hlast : (cs.drop 37).take 1 = cs.drop 37 := List.take_of_length_le (by rw [List.length_drop]; omega)
    rw [hlast]
    conv => lhs; rw [← List.take_append_drop 35 cs, ← List.take_append_drop 1 (cs.drop 35), ← h36, ← List.take_append_drop 1 (cs.drop 36), ← h37]
  rw [hsplit, e0, e1, e2, e3, e4]
  rfl
theorem open_draft {H : Type} {enc : TypeId × Value → H} {W : World} {v : Value} {d : DataW H} {p : List MemPlace} {base : Nat} (hv : Value.okWide Tryd.prog W .any base 27 v)
    (h : DataW.Trod enc Tryd.prog W 0 (fun _ => true) true 27 v d p) (hwt : ∀ n ∈ DataW.weights Tryd.prog 27 d, n ≤ 140737488351232) :
    ∃ x : DraftN, v = .agg (draftV x) ∧ x.In := by
  obtain ⟨cs, rfl, _⟩ := okWide_struct Tryd.underlying27 hv
  obtain ⟨fuel, hf⟩ := h
  obtain ⟨x, e, hx⟩ := open_draft_cells hf hwt
  exact ⟨x, congrArg Value.agg (Array.ext' (by rw [draftV, List.toList_toArray]; exact e)), hx⟩
theorem open_op {H : Type} {enc : TypeId × Value → H} {W : World} {v : Value} {d : DataW H} {p : List MemPlace} {base : Nat} (hv : Value.okWide Tryd.prog W .any base 30 v)
    (h : DataW.Trod enc Tryd.prog W 0 (fun _ => true) true 30 v d p) (hwt : ∀ n ∈ DataW.weights Tryd.prog 30 d, n ≤ 140737488351232) :
    ∃ (o : OpN) (pa : Option Addr) (pc : Nat), v = .agg (opV o pa pc) ∧ o.In ∧ IAt pa o.preds W := by
  obtain ⟨cs, rfl, _⟩ := okWide_struct Tryd.underlying30 hv
  obtain ⟨fuel, hf⟩ := h
  obtain ⟨o, pa, pc, e, h1, h2⟩ := open_op_cells hf hwt
  exact ⟨o, pa, pc, congrArg Value.agg (Array.ext' (by rw [opV, List.toList_toArray]; exact e)), h1, h2⟩
theorem weights_mem_all9 {H : Type} {P : Program} {e : TypeId} : ∀ (l : List (DataW H)) (d : DataW H), d ∈ l → ∀ n ∈ DataW.weights P e d, n ∈ DataW.weightsAll P e l
  | [], _, h, _, _ => by cases h
  | x :: l, d, h, n, hn => by
    simp only [DataW.weightsAll, List.mem_append]
    rcases List.mem_cons.1 h with rfl | h
    · exact .inl hn
    · exact .inr (weights_mem_all9 l d h n hn)
set_option maxRecDepth 100000 in
/-- A slice of operations that came in. -/
theorem open_ops {H : Type} {enc : TypeId × Value → H} {W : World} {v : Value} {d : DataW H} {p : List MemPlace} {base : Nat} (hv : Value.okWide Tryd.prog W .any base 22 v)
    (h : DataW.Trod enc Tryd.prog W 0 (fun _ => true) true 22 v d p) (hwt : ∀ n ∈ DataW.weights Tryd.prog 22 d, n ≤ 140737488351232) :
    ∃ (ao : Option Addr) (L : List OpN) (cap : Nat), v = .slice ao L.length cap ∧ OpsAt ao L W ∧ (∀ x ∈ L, x.In) ∧ L.length ≤ 140737488351232 := by
  obtain ⟨a0, len0, cap0, rfl⟩ := okWide_slice Tryd.underlying22 hv
  obtain ⟨fuel, hf⟩ := h
  have hc4 : Tryd.prog.cellsOf 30 = 38 := by kernel_rfl
  rcases Deep.open_slice Tryd.underlying22 hf with ⟨hcs, _⟩ | ⟨x, len, cap, m, n, D, Pl, hcs, _, hl, hm, hmm, hx, hi⟩
  · simp [Value.cells] at hcs
    obtain ⟨rfl, rfl, rfl⟩ := hcs
    exact ⟨none, [], 0, rfl, .inl rfl, (fun x hx => by cases hx), by decide⟩
  · simp [Value.cells] at hcs
    obtain ⟨rfl, rfl, rfl⟩ := hcs
    simp only [if_true] at hmm
    subst hmm
    rw [hc4] at hi
    have hd : d = .slice ((List.range len0).map D) ((List.range (m - len0)).map fun j => D (len0 + j)) := congrArg Prod.fst hx
    subst hd
    simp only [DataW.weights, Tryd.underlying22] at hwt
    have hwn := hwt _ (List.mem_cons_self ..)
    have hb48 : Tryd.prog.bytesOf 30 = 112 := by kernel_rfl
    rw [hb48] at hwn
    simp only [List.length_map, List.length_range] at hwn
    have hE : ∀ i, i < len0 → ∃ (y : OpN) (pa : Option Addr) (pc : Nat), (y.In ∧ IAt pa y.preds W) ∧ ∀ j u, (opL y pa pc)[j]? = some u → W.cell? ((x.add (i * 38)).add j) = some u := by
      intro i him
      obtain ⟨cs', hc, htr⟩ := hi i (by omega)
      obtain ⟨_, hcl, hat⟩ := World.cells?_some hc
      obtain ⟨y, pa, pc, rfl, hok, hia⟩ := open_op_cells htr (fun q hq => hwt q (List.mem_cons_of_mem _ (List.mem_append_left _ (weights_mem_all9 _ (D i) (List.mem_map.2 ⟨i, List.mem_range.2 him, rfl⟩) q hq))))
      refine ⟨y, pa, pc, ⟨hok, hia⟩, fun j u hj => ?_⟩
      have hj4 : j < 38 := by
        have := (List.getElem?_eq_some_iff.1 hj).1
        rw [opL_len hok.d.ref.1] at this
        exact this
      rw [hat j hj4]
      exact hj
    let F : Nat → OpN := fun i => if h : i < len0 then (hE i h).choose else zeroO
    have hF : ∀ i, i < len0 → ∃ (pa : Option Addr) (pc : Nat), ((F i).In ∧ IAt pa (F i).preds W) ∧ ∀ j u, (opL (F i) pa pc)[j]? = some u → W.cell? ((x.add (i * 38)).add j) = some u := by
      intro i him
      simp only [F, dif_pos him]
      exact (hE i him).choose_spec
    have hlen : ((List.range len0).map F).length = len0 := by simp
    refine ⟨some x, (List.range len0).map F, m, by rw [hlen], ?_, ?_, by rw [hlen]; omega⟩
    · by_cases h0 : len0 = 0
      · subst h0; exact .inl rfl
      · obtain ⟨pa0, pc0, h00, h01⟩ := hF 0 (by omega)
        have h1 := h01 0 _ rfl
        obtain ⟨b, o, spot⟩ := x
        have hspot : spot = none := by simpa [Addr.add] using World.cell?_spot h1
        subst hspot
        refine .inr ⟨b, o, rfl, ?_, fun i y hy => ?_⟩
        · have := lt_of_cell h1
          simpa [Addr.add] using this
        · have hi3 : i < len0 := by have := (List.getElem?_eq_some_iff.1 hy).1; simpa using this
          simp only [List.getElem?_map, List.getElem?_range hi3, Option.map_some, Option.some.injEq] at hy
          subst hy
          obtain ⟨pa, pc, g1, g2⟩ := hF i hi3
          refine ⟨pa, pc, fun j u hj => ?_, g1.2⟩
          have := g2 j u hj
          rw [Addr.add_mid, Addr.add_mid] at this
          exact this
    · intro z hz
      obtain ⟨i, hi2, rfl⟩ := List.mem_map.1 hz
      obtain ⟨_, _, g1, _⟩ := hF i (List.mem_range.1 hi2)
      exact g1.1
/-- A name that came in. -/
theorem open_name {H : Type} {enc : TypeId × Value → H} {P : Program} {W : World} {v : Value} {d : DataW H} {p : List MemPlace} {base : Nat} {t u : TypeId} (hu : P.underlying t = some (.array 32 u)) (he : P.underlying u = some (.int .u8)) (hone : P.cellsOf u = 1) (hsz : P.cellsOf t = 32)
    (hv : Value.okWide P W .any base t v) (h : DataW.Trod enc P W 0 (fun _ => true) true t v d p) : ∃ l : List Nat, v = .agg (nums .u8 l).toArray ∧ IdOk l := by
  simp only [Value.okWide, hu] at hv
  obtain ⟨cs, rfl, hcs, _⟩ := hv
  obtain ⟨fuel, hf⟩ := h
  obtain ⟨l, e, h1, h2⟩ := trod_bytesI hu he hone hsz hf
  exact ⟨l, congrArg Value.agg (Array.ext' (by rw [List.toList_toArray]; exact e)), h1, h2⟩
end Go.Proofs.YthgfpojfnhkckaaDoor
