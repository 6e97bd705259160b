/-
  A script of batches that came in.
-/
import Derived.Test.YthnagnjcbgcnfaaSegM
import Derived.Test.YthnagnjcbgcnfaaArgs
import Derived.Deep.Slices
import Derived.OpenShut
namespace Go.Proofs.Ythnagnjcbgcnfaa
open Go.RowKit Go.ChangeShapes Go.WideShapes Go.Deep

/-- A batch, and where its texts lie. -/
structure Batch where
  kind : Int
  list : List (List UInt8)
  lo : Option Addr
  lc : Nat
  at' : Int
  keep : Nat
def batchV (x : Batch) : Array Value := #[.int .i64 x.kind, .slice x.lo x.list.length x.lc, .int .i64 x.at', .int .u64 x.keep]
structure Batch.Ok (x : Batch) (w : World) : Prop where
  strs : StrsAt x.lo x.list w
  none : x.lo = Option.none → x.lc = 0
  count : x.list.length ≤ 140737488351232
  long : ∀ t ∈ x.list, t.length ≤ 140737488351232
/-- What it takes to read it. -/
structure Batch.Rd (x : Batch) (w : World) : Prop where
  strs : StrsAt x.lo x.list w
  count : x.list.length ≤ 140737488351232
  long : ∀ t ∈ x.list, t.length ≤ 140737488351232
theorem Batch.Ok.rd {x : Batch} {w : World} (h : x.Ok w) : x.Rd w := ⟨h.strs, h.count, h.long⟩
/-- Batches lie there. -/
def BatchesAt (ao : Option Addr) (L : List Batch) (w : World) : Prop :=
  L = [] ∨ ∃ b o, ao = some ⟨b, o, none⟩ ∧ b < w.heap.size ∧ ∀ i (h : i < L.length), w.rangeAt b (o + i * 4) (batchV L[i]).toList

theorem open_text_row {H : Type} {enc : TypeId × Value → H} {W : World} {n : Nat} {v : Value} {y : DataW H × List MemPlace}
    (h : DataW.trod enc Try.prog W 0 (fun _ => true) true n 29 [v] = some y) (hwt : ∀ n ∈ DataW.weights Try.prog 29 y.1, n ≤ 140737488351232) :
    ∃ (ao : Option Addr) (l : List (List UInt8)) (cap : Nat), v = .slice ao l.length cap ∧ StrsAt ao l W ∧ (ao = none → cap = 0) ∧ l.length ≤ 140737488351232 ∧ ∀ t ∈ l, t.length ≤ 140737488351232 := by
  rcases open_strings Try.underlying29 Try.underlying9 (by kernel_rfl) h with ⟨hcs, _⟩ | ⟨x, len, cap, ss, hcs, _, hl, hm, hz, hx, hcell, _⟩
  · simp only [List.cons.injEq, and_true] at hcs
    subst hcs
    exact ⟨none, [], 0, rfl, Or.inl rfl, (fun _ => rfl), by simp, by simp⟩
  · simp only [List.cons.injEq, and_true] at hcs
    subst hcs
    simp only [if_true] at hz
    have hd : y.1 = .slice (Go.ChangeShapes.strs (ss.take len)) (Go.ChangeShapes.strs (ss.drop len)) := congrArg Prod.fst hx
    rw [hd] at hwt
    simp only [DataW.weights, Try.underlying29] at hwt
    have hwn := hwt _ (List.mem_cons_self ..)
    have hb16 : Try.prog.bytesOf 9 = 16 := by kernel_rfl
    rw [hb16] at hwn
    have hwe : ∀ s ∈ ss.take len, s.data.toList.length ≤ 140737488351232 := fun s hs => hwt _ (List.mem_cons_of_mem _ (List.mem_append_left _ (weights_texts (ss.take len) s hs)))
    have hlen0 : (Go.ChangeShapes.strs (H := H) (ss.take len)).length = len := by simp [Go.ChangeShapes.strs]; omega
    rw [hlen0] at hwn
    have hlen : ((ss.take len).map fun s => s.data.toList).length = len := by simp; omega
    refine ⟨some x, (ss.take len).map fun s => s.data.toList, cap, by rw [hlen], ?_, (fun h => by cases h), by rw [hlen]; omega, ?_⟩
    · by_cases h0 : len = 0
      · subst h0; exact Or.inl (by simp)
      · obtain ⟨b, o, spot⟩ := x
        have hc := hcell 0 (by omega)
        have hspot : spot = none := by simpa [Addr.add] using World.cell?_spot hc
        subst hspot
        have hadd : ∀ j, (⟨b, o, none⟩ : Addr).add j = ⟨b, o + j, none⟩ := fun j => by simp only [Addr.add]; split <;> simp_all
        refine Or.inr ⟨b, o, rfl, ?_, ?_⟩
        · have := lt_of_cell hc; rw [hadd] at this; exact this
        · intro j hj
          rw [hlen] at hj
          have := hcell j (by omega)
          rw [hadd] at this
          rw [this]
          have hj2 : j < ss.length := by omega
          simp [List.getD, List.getElem?_eq_getElem hj2]
    · intro t ht
      simp only [List.mem_map] at ht
      obtain ⟨s, hs, rfl⟩ := ht
      exact hwe s hs
theorem weights_all_mem {H : Type} {P : Program} {e : TypeId} : ∀ (l : List (DataW H)) (d : DataW H), d ∈ l → ∀ n ∈ DataW.weights P e d, n ∈ DataW.weightsAll P e l
  | [], _, h, _, _ => by cases h
  | x :: l, d, h, n, hn => by
    simp only [DataW.weightsAll, List.mem_append]
    rcases List.mem_cons.1 h with rfl | h
    · exact .inl hn
    · exact .inr (weights_all_mem l d h n hn)

set_option maxRecDepth 100000 in
theorem open_batch {H : Type} {enc : TypeId × Value → H} {W : World} {n : Nat} {cs : List Value} {x : DataW H × List MemPlace}
    (h : DataW.trod enc Try.prog W 0 (fun _ => true) true n 35 cs = some x) (hwt : ∀ n ∈ DataW.weights Try.prog 35 x.1, n ≤ 140737488351232) :
    ∃ y : Batch, cs = (batchV y).toList ∧ y.Ok W := by
  obtain ⟨xs, m, _, hx, hcl, hxl, hf⟩ := DataW.trod_struct Try.underlying35 h
  have hc4 : Try.prog.cellsOf 35 = 4 := by kernel_rfl
  have hci : Try.prog.cellsOf 3 = 1 := by kernel_rfl
  have hcs : Try.prog.cellsOf 29 = 1 := by kernel_rfl
  have hcu : Try.prog.cellsOf 23 = 1 := by kernel_rfl
  rw [hc4] at hcl
  match cs, hcl with
  | [v0, v1, v2, v3], _ =>
  match xs, hxl with
  | [x0, x1, x2, x3], _ =>
  have t0 : DataW.trod enc Try.prog W 0 (fun _ => true) true m 3 ([v0, v1, v2, v3].take (Try.prog.cellsOf 3)) = some x0 := hf 0 _ rfl
  have t1 : DataW.trod enc Try.prog W 0 (fun _ => true) true m 29 (([v0, v1, v2, v3].drop 1).take (Try.prog.cellsOf 29)) = some x1 := hf 1 _ rfl
  have t2 : DataW.trod enc Try.prog W 0 (fun _ => true) true m 3 (([v0, v1, v2, v3].drop 2).take (Try.prog.cellsOf 3)) = some x2 := hf 2 _ rfl
  have t3 : DataW.trod enc Try.prog W 0 (fun _ => true) true m 23 (([v0, v1, v2, v3].drop 3).take (Try.prog.cellsOf 23)) = some x3 := hf 3 _ rfl
  rw [hci] at t0 t2
  rw [hcs] at t1
  rw [hcu] at t3
  simp only [List.drop_succ_cons, List.drop_zero, List.take_succ_cons, List.take_zero] at t0 t1 t2 t3
  obtain ⟨k, e0, _, _⟩ := DataW.trod_int Try.underlying3 t0
  obtain ⟨a, e2, _, _⟩ := DataW.trod_int Try.underlying3 t2
  obtain ⟨u, e3, _, w3⟩ := DataW.trod_int Try.underlying23 t3
  have hx1 : x.1 = .agg [x0.1, x1.1, x2.1, x3.1] := congrArg Prod.fst hx
  rw [hx1] at hwt
  simp only [DataW.weights, Try.underlying35] at hwt
  obtain ⟨lo, T, lc, e1, h1, h2, h3, h4⟩ := open_text_row t1 (fun q hq => hwt q (by
    simp only [List.map_cons, List.map_nil, DataW.weightsEach, List.mem_append]
    exact .inr (.inl hq)))
  simp only [List.cons.injEq, and_true] at e0 e2 e3
  simp only [Lit.wf, Bool.and_eq_true, decide_eq_true_eq] at w3
  have u0 : (0 : Int) ≤ u := w3.1
  refine ⟨⟨k, T, lo, lc, a, u.toNat⟩, ?_, h1, h2, h3, h4⟩
  rw [e0, e1, e2, e3]
  show _ = [Value.int .i64 k, .slice lo T.length lc, .int .i64 a, .int .u64 (u.toNat : Int)]
  rw [Int.toNat_of_nonneg u0]

set_option maxRecDepth 100000 in
/-- A slice of batches that came in. -/
theorem open_batches {H : Type} {enc : TypeId × Value → H} {W : World} {v : Value} {d : DataW H} {p : List MemPlace} {base : Nat} (hv : Value.okWide Try.prog W .any base 22 v)
    (h : DataW.Trod enc Try.prog W 0 (fun _ => true) true 22 v d p) (hwt : ∀ n ∈ DataW.weights Try.prog 22 d, n ≤ 140737488351232) :
    ∃ (ao : Option Addr) (L : List Batch) (cap : Nat), v = .slice ao L.length cap ∧ BatchesAt ao L W ∧ (∀ x ∈ L, x.Ok W) ∧ L.length ≤ 140737488351232 := by
  obtain ⟨a0, len0, cap0, rfl⟩ := okWide_slice Try.underlying22 hv
  obtain ⟨fuel, hf⟩ := h
  have hc4 : Try.prog.cellsOf 35 = 4 := by kernel_rfl
  rcases Deep.open_slice Try.underlying22 hf with ⟨hcs, _⟩ | ⟨x, len, cap, m, n, D, Pl, hcs, _, hl, hm, hmm, hx, hi⟩
  · simp [Value.cells] at hcs
    obtain ⟨rfl, rfl, rfl⟩ := hcs
    exact ⟨none, [], 0, rfl, .inl rfl, (fun x hx => by cases hx), by decide⟩
  · simp [Value.cells] at hcs
    obtain ⟨rfl, rfl, rfl⟩ := hcs
    simp only [if_true] at hmm
    subst hmm
    rw [hc4] at hi
    have hd : d = .slice ((List.range len0).map D) ((List.range (m - len0)).map fun j => D (len0 + j)) := congrArg Prod.fst hx
    subst hd
    simp only [DataW.weights, Try.underlying22] at hwt
    have hwn := hwt _ (List.mem_cons_self ..)
    have hb48 : Try.prog.bytesOf 35 = 48 := by kernel_rfl
    rw [hb48] at hwn
    simp only [List.length_map, List.length_range] at hwn
    have hE : ∀ i, i < len0 → ∃ y : Batch, y.Ok W ∧ ∀ j u, (batchV y).toList[j]? = some u → W.cell? ((x.add (i * 4)).add j) = some u := by
      intro i him
      obtain ⟨cs', hc, htr⟩ := hi i (by omega)
      obtain ⟨_, hcl, hat⟩ := World.cells?_some hc
      obtain ⟨y, rfl, hok⟩ := open_batch htr (fun q hq => hwt q (List.mem_cons_of_mem _ (List.mem_append_left _ (weights_all_mem _ (D i) (List.mem_map.2 ⟨i, List.mem_range.2 him, rfl⟩) q hq))))
      refine ⟨y, hok, fun j u hj => ?_⟩
      have hj4 : j < 4 := by
        have := (List.getElem?_eq_some_iff.1 hj).1
        simpa [batchV] using this
      rw [hat j hj4]
      exact hj
    let F : Nat → Batch := fun i => if h : i < len0 then (hE i h).choose else ⟨0, [], none, 0, 0, 0⟩
    have hF : ∀ i, i < len0 → (F i).Ok W ∧ ∀ j u, (batchV (F i)).toList[j]? = some u → W.cell? ((x.add (i * 4)).add j) = some u := by
      intro i him
      show ((if h : i < len0 then (hE i h).choose else _) : Batch).Ok W ∧ _
      simp only [F, dif_pos him]
      exact (hE i him).choose_spec
    have hlen : ((List.range len0).map F).length = len0 := by simp
    refine ⟨some x, (List.range len0).map F, m, by rw [hlen], ?_, ?_, by rw [hlen]; omega⟩
    · by_cases h0 : len0 = 0
      · subst h0; exact .inl rfl
      · have h1 := (hF 0 (by omega)).2 0 _ rfl
        obtain ⟨b, o, spot⟩ := x
        have hspot : spot = none := by simpa [Addr.add] using World.cell?_spot h1
        subst hspot
        refine .inr ⟨b, o, rfl, ?_, fun i hi2 j u hj => ?_⟩
        · have := lt_of_cell h1
          simpa [Addr.add] using this
        · have hi3 : i < len0 := by simpa using hi2
          simp only [List.getElem_map, List.getElem_range] at hj
          have := (hF i hi3).2 j u hj
          rw [Addr.add_mid, Addr.add_mid] at this
          exact this
    · intro z hz
      obtain ⟨i, hi2, rfl⟩ := List.mem_map.1 hz
      exact (hF i (List.mem_range.1 hi2)).1
theorem range_below {b o B : Nat} {cs : List Value} {w w' : World} (h : w.rangeAt b o cs) (hb : Below B w w') (hB : b < B) : w'.rangeAt b o cs := fun j v hv => (hb.cell (p := ⟨b, o + j, none⟩) hB).trans (h j v hv)
theorem BatchesAt.below {ao : Option Addr} {L : List Batch} {w w' : World} (h : BatchesAt ao L w) (hb : Below w.heap.size w w') : BatchesAt ao L w' := by
  rcases h with h | ⟨b, o, h1, h2, h3⟩
  · exact .inl h
  · exact .inr ⟨b, o, h1, Nat.lt_of_lt_of_le h2 hb.size, fun i hi => range_below (h3 i hi) hb h2⟩
theorem Batch.Ok.below {x : Batch} {w w' : World} (h : x.Ok w) (hb : Below w.heap.size w w') : x.Ok w' := ⟨h.strs.below hb, h.none, h.count, h.long⟩
theorem BatchesAt.some {ao : Option Addr} {L : List Batch} {w : World} (h : BatchesAt ao L w) {k : Nat} (hk : k < L.length) : ∃ b o, ao = some ⟨b, o, none⟩ ∧ b < w.heap.size ∧ w.rangeAt b (o + k * 4) (batchV L[k]).toList := by
  rcases h with rfl | ⟨b, o, h1, h2, h3⟩
  · cases hk
  · exact ⟨b, o, h1, h2, h3 k hk⟩
end Go.Proofs.Ythnagnjcbgcnfaa
