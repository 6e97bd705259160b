/-
  A script of calls that came in.
-/
import Derived.Test.YtmkelboncapkpaaDiskFit
import Derived.Test.YtmkelboncapkpaaArgs
import Derived.Deep.Slices
import Derived.OpenShut
namespace Go.Proofs.Ytmkelboncapkpaa
open Go.RowKit Go.ChangeShapes Go.WideShapes Go.Deep

def callV (c : CallN) (bo : Option Addr) (bc : Nat) : Array Value := #[.int .i64 c.kind, .int .i64 c.at', .slice bo c.b.length bc, .int .u64 c.keep]
/-- A call, and where its bytes lie. -/
structure CallAt where
  c : CallN
  bo : Option Addr
  bc : Nat
/-- What can be. -/
structure CallAt.Ok (x : CallAt) (w : World) : Prop where
  nums : NumsAt x.bo .u8 (byteNs x.c.b) w
  block : byteNs x.c.b ≠ [] → ∀ a, x.bo = some a → a.block < w.heap.size
  low : -9223372036854775808 ≤ x.c.at'
  high : x.c.at' ≤ 9223372036854775807
  keep : x.c.keep < 18446744073709551616
  long : x.c.b.length ≤ 140737488351232
/-- A script lies there. -/
def ScriptAt (ao : Option Addr) (L : List CallAt) (w : World) : Prop :=
  L = [] ∨ ∃ b o, ao = some ⟨b, o, none⟩ ∧ b < w.heap.size ∧ ∀ i (h : i < L.length), w.rangeAt b (o + i * 4) (callV L[i].c L[i].bo L[i].bc).toList

theorem open_byte_row {H : Type} {enc : TypeId × Value → H} {W : World} {n : Nat} {v : Value} {x : DataW H × List MemPlace}
    (h : DataW.trod enc Try.prog W 0 (fun _ => true) true n 29 [v] = some x) (hwt : ∀ n ∈ DataW.weights Try.prog 29 x.1, n ≤ 140737488351232) :
    ∃ (bo : Option Addr) (b : List UInt8) (bc : Nat), v = .slice bo b.length bc ∧ NumsAt bo .u8 (byteNs b) W ∧ (byteNs b ≠ [] → ∀ a, bo = some a → a.block < W.heap.size) ∧ b.length ≤ 140737488351232 ∧ (bo = none → bc = 0) := by
  rcases open_slice1 Try.underlying29 (by kernel_rfl) h with ⟨hcs, _⟩ | ⟨a, len, cap, m, k, V, D, Pl, hcs, _, hl, hm, hmm, hx, hcell⟩
  · simp only [List.cons.injEq, and_true] at hcs
    exact ⟨none, [], 0, by rw [hcs]; rfl, .inl rfl, (fun _ a ha => by cases ha), by decide, fun _ => rfl⟩
  · simp only [List.cons.injEq, and_true] at hcs
    simp only [if_true] at hmm
    subst hmm
    have hd : x.1 = .slice ((List.range len).map D) ((List.range (m - len)).map fun j => D (len + j)) := congrArg Prod.fst hx
    rw [hd] at hwt
    simp only [DataW.weights, Try.underlying29] at hwt
    have hwn := hwt _ (List.mem_cons_self ..)
    have hb1 : Try.prog.bytesOf 5 = 1 := by kernel_rfl
    rw [hb1] at hwn
    simp only [List.length_map, List.length_range] at hwn
    have each : ∀ i, i < len → ∃ z : UInt8, V i = .int .u8 (z.toNat : Int) := fun i hi => by
      obtain ⟨z, e, _, hw⟩ := DataW.trod_int Try.underlying5 (hcell i (by omega)).2
      simp only [Lit.wf, Bool.and_eq_true, decide_eq_true_eq] at hw
      have h1 : (0 : Int) ≤ z := hw.1
      have h2 : z ≤ 255 := hw.2
      refine ⟨UInt8.ofNat z.toNat, ?_⟩
      simp only [List.cons.injEq, and_true] at e
      rw [e]
      congr 1
      simp
      omega
    obtain ⟨Z, hZ⟩ := choose_lt each
    have hlen : ((List.range len).map Z).length = len := by simp
    refine ⟨some a, (List.range len).map Z, m, by rw [hcs, hlen], ?_, fun hne a' ha' => ?_, by rw [hlen]; omega, fun h => by cases h⟩
    · by_cases h0 : len = 0
      · subst h0; exact .inl rfl
      · obtain ⟨b, o, spot⟩ := a
        have hc := (hcell 0 (by omega)).1
        have hspot : spot = none := by simpa [Addr.add] using World.cell?_spot hc
        subst hspot
        refine .inr ⟨b, o, rfl, ?_, fun j hj => ?_⟩
        · have := lt_of_cell hc
          rw [Addr.add_mid] at this
          exact this
        · rw [byteNs_len, hlen] at hj
          have := (hcell j (by omega)).1
          rw [Addr.add_mid] at this
          rw [this, hZ j hj]
          simp [byteNs]
    · obtain rfl : a = a' := by simpa using ha'
      have h0 : 0 < len := by
        rcases Nat.eq_zero_or_pos len with h | h
        · subst h; exact absurd rfl hne
        · exact h
      have := lt_of_cell (hcell 0 (by omega)).1
      rw [show (a.add 0).block = a.block by cases a; simp only [Addr.add]; split <;> rfl] at this
      exact this
theorem weights_all_mem {H : Type} {P : Program} {e : TypeId} : ∀ (l : List (DataW H)) (d : DataW H), d ∈ l → ∀ n ∈ DataW.weights P e d, n ∈ DataW.weightsAll P e l
  | [], _, h, _, _ => by cases h
  | x :: l, d, h, n, hn => by
    simp only [DataW.weightsAll, List.mem_append]
    rcases List.mem_cons.1 h with rfl | h
    · exact .inl hn
    · exact .inr (weights_all_mem l d h n hn)

set_option maxRecDepth 100000 in
theorem open_call {H : Type} {enc : TypeId × Value → H} {W : World} {n : Nat} {cs : List Value} {x : DataW H × List MemPlace}
    (h : DataW.trod enc Try.prog W 0 (fun _ => true) true n 32 cs = some x) (hwt : ∀ n ∈ DataW.weights Try.prog 32 x.1, n ≤ 140737488351232) :
    ∃ y : CallAt, cs = (callV y.c y.bo y.bc).toList ∧ y.Ok W := by
  obtain ⟨xs, m, _, hx, hcl, hxl, hf⟩ := DataW.trod_struct Try.underlying32 h
  have hc4 : Try.prog.cellsOf 32 = 4 := by kernel_rfl
  have hci : Try.prog.cellsOf 3 = 1 := by kernel_rfl
  have hcs : Try.prog.cellsOf 29 = 1 := by kernel_rfl
  have hcu : Try.prog.cellsOf 30 = 1 := by kernel_rfl
  rw [hc4] at hcl
  match cs, hcl with
  | [v0, v1, v2, v3], _ =>
  match xs, hxl with
  | [x0, x1, x2, x3], _ =>
  have t0 : DataW.trod enc Try.prog W 0 (fun _ => true) true m 3 ([v0, v1, v2, v3].take (Try.prog.cellsOf 3)) = some x0 := hf 0 _ rfl
  have t1 : DataW.trod enc Try.prog W 0 (fun _ => true) true m 3 (([v0, v1, v2, v3].drop 1).take (Try.prog.cellsOf 3)) = some x1 := hf 1 _ rfl
  have t2 : DataW.trod enc Try.prog W 0 (fun _ => true) true m 29 (([v0, v1, v2, v3].drop 2).take (Try.prog.cellsOf 29)) = some x2 := hf 2 _ rfl
  have t3 : DataW.trod enc Try.prog W 0 (fun _ => true) true m 30 (([v0, v1, v2, v3].drop 3).take (Try.prog.cellsOf 30)) = some x3 := hf 3 _ rfl
  rw [hci] at t0 t1
  rw [hcs] at t2
  rw [hcu] at t3
  simp only [List.drop_succ_cons, List.drop_zero, List.take_succ_cons, List.take_zero] at t0 t1 t2 t3
  obtain ⟨k, e0, _, _⟩ := DataW.trod_int Try.underlying3 t0
  obtain ⟨a, e1, _, w1⟩ := DataW.trod_int Try.underlying3 t1
  obtain ⟨u, e3, _, w3⟩ := DataW.trod_int Try.underlying30 t3
  have hx1 : x.1 = .agg [x0.1, x1.1, x2.1, x3.1] := congrArg Prod.fst hx
  rw [hx1] at hwt
  simp only [DataW.weights, Try.underlying32] at hwt
  obtain ⟨bo, b, bc, e2, h1, h2, h3, _⟩ := open_byte_row t2 (fun q hq => hwt q (by
    simp only [List.map_cons, List.map_nil, DataW.weightsEach, List.mem_append]
    exact .inr (.inr (.inl hq))))
  simp only [List.cons.injEq, and_true] at e0 e1 e3
  simp only [Lit.wf, Bool.and_eq_true, decide_eq_true_eq] at w1 w3
  have u0 : (0 : Int) ≤ u := w3.1
  have u1 : u ≤ 18446744073709551615 := w3.2
  refine ⟨⟨⟨k, a, b, u.toNat⟩, bo, bc⟩, ?_, h1, h2, w1.1, w1.2, by show u.toNat < _; omega, h3⟩
  rw [e0, e1, e2, e3]
  show _ = [Value.int .i64 k, .int .i64 a, .slice bo b.length bc, .int .u64 (u.toNat : Int)]
  rw [Int.toNat_of_nonneg u0]

set_option maxRecDepth 100000 in
/-- A slice of calls that came in. -/
theorem open_script {H : Type} {enc : TypeId × Value → H} {W : World} {v : Value} {d : DataW H} {p : List MemPlace} {base : Nat} (hv : Value.okWide Try.prog W .any base 22 v)
    (h : DataW.Trod enc Try.prog W 0 (fun _ => true) true 22 v d p) (hwt : ∀ n ∈ DataW.weights Try.prog 22 d, n ≤ 140737488351232) :
    ∃ (ao : Option Addr) (L : List CallAt) (cap : Nat), v = .slice ao L.length cap ∧ ScriptAt ao L W ∧ (∀ x ∈ L, x.Ok W) ∧ L.length ≤ 140737488351232 := by
  obtain ⟨a0, len0, cap0, rfl⟩ := okWide_slice Try.underlying22 hv
  obtain ⟨fuel, hf⟩ := h
  have hc4 : Try.prog.cellsOf 32 = 4 := by kernel_rfl
  rcases Deep.open_slice Try.underlying22 hf with ⟨hcs, _⟩ | ⟨x, len, cap, m, n, D, Pl, hcs, _, hl, hm, hmm, hx, hi⟩
  · simp [Value.cells] at hcs
    obtain ⟨rfl, rfl, rfl⟩ := hcs
    exact ⟨none, [], 0, rfl, .inl rfl, (fun x hx => by cases hx), by decide⟩
  · simp [Value.cells] at hcs
    obtain ⟨rfl, rfl, rfl⟩ := hcs
    simp only [if_true] at hmm
    subst hmm
    rw [hc4] at hi
    have hd : d = .slice ((List.range len0).map D) ((List.range (m - len0)).map fun j => D (len0 + j)) := congrArg Prod.fst hx
    subst hd
    simp only [DataW.weights, Try.underlying22] at hwt
    have hwn := hwt _ (List.mem_cons_self ..)
    have hb48 : Try.prog.bytesOf 32 = 48 := by kernel_rfl
    rw [hb48] at hwn
    simp only [List.length_map, List.length_range] at hwn
    have hE : ∀ i, i < len0 → ∃ y : CallAt, y.Ok W ∧ ∀ j u, (callV y.c y.bo y.bc).toList[j]? = some u → W.cell? ((x.add (i * 4)).add j) = some u := by
      intro i him
      obtain ⟨cs', hc, htr⟩ := hi i (by omega)
      obtain ⟨_, hcl, hat⟩ := World.cells?_some hc
      obtain ⟨y, rfl, hok⟩ := open_call htr (fun q hq => hwt q (List.mem_cons_of_mem _ (List.mem_append_left _ (weights_all_mem _ (D i) (List.mem_map.2 ⟨i, List.mem_range.2 him, rfl⟩) q hq))))
      refine ⟨y, hok, fun j u hj => ?_⟩
      have hj4 : j < 4 := by
        have := (List.getElem?_eq_some_iff.1 hj).1
        simpa [callV] using this
      rw [hat j hj4]
      exact hj
    have hI : Nonempty CallAt := ⟨⟨⟨0, 0, [], 0⟩, none, 0⟩⟩
    let F : Nat → CallAt := fun i => if h : i < len0 then (hE i h).choose else ⟨⟨0, 0, [], 0⟩, none, 0⟩
    have hF : ∀ i, i < len0 → (F i).Ok W ∧ ∀ j u, (callV (F i).c (F i).bo (F i).bc).toList[j]? = some u → W.cell? ((x.add (i * 4)).add j) = some u := by
      intro i him
      show ((if h : i < len0 then (hE i h).choose else _) : CallAt).Ok W ∧ _
      simp only [F, dif_pos him]
      exact (hE i him).choose_spec
    have hlen : ((List.range len0).map F).length = len0 := by simp
    refine ⟨some x, (List.range len0).map F, m, by rw [hlen], ?_, ?_, by rw [hlen]; omega⟩
    · by_cases h0 : len0 = 0
      · subst h0; exact .inl rfl
      · have h1 := (hF 0 (by omega)).2 0 _ rfl
        obtain ⟨b, o, spot⟩ := x
        have hspot : spot = none := by simpa [Addr.add] using World.cell?_spot h1
        subst hspot
        refine .inr ⟨b, o, rfl, ?_, fun i hi2 j u hj => ?_⟩
        · have := lt_of_cell h1
          simpa [Addr.add] using this
        · have hi3 : i < len0 := by simpa using hi2
          simp only [List.getElem_map, List.getElem_range] at hj
          have := (hF i hi3).2 j u hj
          rw [Addr.add_mid, Addr.add_mid] at this
          exact this
    · intro z hz
      obtain ⟨i, hi2, rfl⟩ := List.mem_map.1 hz
      exact (hF i (List.mem_range.1 hi2)).1
/-- A slice of bytes that came in. -/
theorem open_byte_slice {H : Type} {enc : TypeId × Value → H} {W : World} {v : Value} {d : DataW H} {p : List MemPlace} {base : Nat} (hv : Value.okWide Try.prog W .any base 29 v)
    (h : DataW.Trod enc Try.prog W 0 (fun _ => true) true 29 v d p) (hwt : ∀ n ∈ DataW.weights Try.prog 29 d, n ≤ 140737488351232) :
    ∃ (ao : Option Addr) (b : List UInt8) (cap : Nat), v = .slice ao b.length cap ∧ (NumsAt ao .u8 (byteNs b) W ∧ (byteNs b ≠ [] → ∀ a, ao = some a → a.block < W.heap.size)) ∧ b.length ≤ 140737488351232 ∧ (ao = none → cap = 0) := by
  obtain ⟨a0, len0, cap0, rfl⟩ := okWide_slice Try.underlying29 hv
  obtain ⟨fuel, hf⟩ := h
  obtain ⟨bo, b, bc, e, h1, h2, h3, h4⟩ := open_byte_row (v := .slice a0 len0 cap0) hf hwt
  exact ⟨bo, b, bc, e, ⟨h1, h2⟩, h3, h4⟩
end Go.Proofs.Ytmkelboncapkpaa
