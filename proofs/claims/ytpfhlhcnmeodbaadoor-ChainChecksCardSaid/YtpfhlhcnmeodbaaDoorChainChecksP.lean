/-
  The law ChainChecks: for every input it answers true, and its arguments read as they did. Condition: the round constants' table lies as the program's text lays it (the card ties it).
-/
import Derived.ChangeOld
import Derived.Deep.Slices
import Derived.OpenShut
import Derived.ProofKit
import Derived.ShutString
import Derived.SizedLaws
import Derived.SliceStrings
import Derived.Test.YtpfhlhcnmeodbaaDoorRows
import Derived.Test.YtpfhlhcnmeodbaaDoorK01
import Derived.Test.YtpfhlhcnmeodbaaDoorK02
import Derived.Test.YtpfhlhcnmeodbaaDoorK03
import Derived.Test.YtpfhlhcnmeodbaaDoorK04
import Derived.Test.YtpfhlhcnmeodbaaDoorK05
import Derived.Test.YtpfhlhcnmeodbaaDoorK06
import Derived.Test.YtpfhlhcnmeodbaaDoorK07
import Derived.Test.YtpfhlhcnmeodbaaDoorK08
import Derived.Test.YtpfhlhcnmeodbaaDoorK09
import Derived.Test.YtpfhlhcnmeodbaaDoorK10
import Derived.Test.YtpfhlhcnmeodbaaDoorK11
namespace Go.Proofs.YtpfhlhcnmeodbaaDoor
open Go.ChangeShapes Go.WideShapes Go.ChangeAt Go.RowKit
theorem lt_of_cell {w : World} {a : Addr} {v : Value} (h : w.cell? a = some v) : a.block < w.heap.size := by
  rcases Nat.lt_or_ge a.block w.heap.size with h' | h'
  · exact h'
  · simp [World.cell?, Array.getElem?_eq_none h'] at h
end Go.Proofs.YtpfhlhcnmeodbaaDoor
namespace Go.Proofs.YtpfhlhcnmeodbaaDoor
open Go.RowKit Go.BigFrame Go.ChangeShapes Go.WideShapes Go.Deep
theorem weights_mem_rows {H : Type} {P : Program} {e : TypeId} : ∀ (l : List (DataW H)) (d : DataW H), d ∈ l → ∀ n ∈ DataW.weights P e d, n ∈ DataW.weightsAll P e l
  | [], _, h, _, _ => by cases h
  | x :: l, d, h, n, hn => by
    simp only [DataW.weightsAll, List.mem_append]
    rcases List.mem_cons.1 h with rfl | h
    · exact .inl hn
    · exact .inr (weights_mem_rows l d h n hn)
set_option maxRecDepth 100000 in
theorem open_row_cells {α : Type} {H : Type} {enc : TypeId × Value → H} {P : Program} {W : World} {fuel : Nat} {cs : List Value} {xx : DataW H × List MemPlace} (T e : TypeId) (K : Nat) (f : α → List Value) (G : α → Prop) (z : α)
    (hT : P.underlying T = some (.slice e)) (hK : P.cellsOf e = K) (hK0 : 0 < K) (hB : 1 ≤ P.bytesOf e) (hf : ∀ y, G y → (f y).length = K)
    (hop : ∀ n cs x, DataW.trod enc P W 0 (fun _ => true) true n e cs = some x → (∀ n ∈ DataW.weights P e x.1, n ≤ 140737488351232) → ∃ y, cs = f y ∧ G y)
    (hff : DataW.trod enc P W 0 (fun _ => true) true fuel T cs = some xx) (hwt : ∀ n ∈ DataW.weights P T xx.1, n ≤ 140737488351232) :
    ∃ (ao : Option Addr) (L : List α) (cap : Nat), cs = [.slice ao L.length cap] ∧ RAt K ao (L.map f) W ∧ (∀ x ∈ L, G x) ∧ L.length ≤ 140737488351232 ∧ L.length ≤ cap := by
  rcases Deep.open_slice hT hff with ⟨hcs, _⟩ | ⟨x, len0, cap, m, n, D, Pl, hcs, _, hl, hm, hmm, hx, hi⟩
  · exact ⟨none, [], 0, hcs, .inl rfl, (fun x hx => by cases hx), Nat.zero_le _, Nat.le_refl _⟩
  · simp only [if_true] at hmm
    subst hmm
    rw [hK] at hi
    have hd : xx.1 = .slice ((List.range len0).map D) ((List.range (m - len0)).map fun j => D (len0 + j)) := congrArg Prod.fst hx
    rw [hd] at hwt
    simp only [DataW.weights, hT] at hwt
    have hwn := hwt _ (List.mem_cons_self ..)
    simp only [List.length_map, List.length_range] at hwn
    have hwl : len0 ≤ 140737488351232 := by
      have h1 := Nat.le_mul_of_pos_right len0 hB
      have h2 : len0 + (m - len0) = m := by omega
      rw [h2] at hwn
      have h3 : m * 1 ≤ m * P.bytesOf e := Nat.mul_le_mul_left m hB
      omega
    have hE : ∀ i, i < len0 → ∃ y : α, G y ∧ ∀ j u, (f y)[j]? = some u → W.cell? ((x.add (i * K)).add j) = some u := by
      intro i him
      obtain ⟨cs', hc, htr⟩ := hi i (by omega)
      obtain ⟨_, hcl, hat⟩ := World.cells?_some hc
      obtain ⟨y, rfl, hok⟩ := hop _ _ _ htr (fun q hq => hwt q (List.mem_cons_of_mem _ (List.mem_append_left _ (weights_mem_rows _ (D i) (List.mem_map.2 ⟨i, List.mem_range.2 him, rfl⟩) q hq))))
      refine ⟨y, hok, fun j u hj => ?_⟩
      have hj4 : j < K := by
        have := (List.getElem?_eq_some_iff.1 hj).1
        rw [hf y hok] at this
        exact this
      rw [hat j hj4]
      exact hj
    let F : Nat → α := fun i => if h : i < len0 then (hE i h).choose else z
    have hF : ∀ i, i < len0 → G (F i) ∧ ∀ j u, (f (F i))[j]? = some u → W.cell? ((x.add (i * K)).add j) = some u := by
      intro i him
      simp only [F, dif_pos him]
      exact (hE i him).choose_spec
    have hlen : ((List.range len0).map F).length = len0 := by simp
    refine ⟨some x, (List.range len0).map F, m, by rw [hlen, hcs], ?_, ?_, by rw [hlen]; exact hwl, by rw [hlen]; exact hl⟩
    · by_cases h0 : len0 = 0
      · subst h0; exact .inl rfl
      · obtain ⟨g0, h01⟩ := hF 0 (by omega)
        obtain ⟨u0, hu0⟩ : ∃ u, (f (F 0))[0]? = some u := ⟨_, List.getElem?_eq_getElem (by rw [hf _ g0]; exact hK0)⟩
        have h1 := h01 0 _ hu0
        obtain ⟨b, o, spot⟩ := x
        have hspot : spot = none := by simpa [Addr.add] using World.cell?_spot h1
        subst hspot
        refine .inr ⟨b, o, rfl, ?_, fun i c hc => ?_⟩
        · have := lt_of_cell h1
          simpa [Addr.add] using this
        · have hi3 : i < len0 := by have := (List.getElem?_eq_some_iff.1 hc).1; simpa using this
          simp only [List.getElem?_map, List.getElem?_range hi3, Option.map_some, Option.some.injEq] at hc
          subst hc
          obtain ⟨_, g2⟩ := hF i hi3
          refine fun j u hj => ?_
          have := g2 j u hj
          rw [Addr.add_mid, Addr.add_mid] at this
          exact this
    · intro q hq
      obtain ⟨i, hi2, rfl⟩ := List.mem_map.1 hq
      exact (hF i (List.mem_range.1 hi2)).1
set_option maxRecDepth 100000 in
theorem open_row {α : Type} {H : Type} {enc : TypeId × Value → H} {P : Program} {W : World} {v : Value} {d : DataW H} {p : List MemPlace} {base : Nat} (T e : TypeId) (K : Nat) (f : α → List Value) (G : α → Prop) (z : α)
    (hT : P.underlying T = some (.slice e)) (hK : P.cellsOf e = K) (hK0 : 0 < K) (hB : 1 ≤ P.bytesOf e) (hf : ∀ y, G y → (f y).length = K)
    (hop : ∀ n cs x, DataW.trod enc P W 0 (fun _ => true) true n e cs = some x → (∀ n ∈ DataW.weights P e x.1, n ≤ 140737488351232) → ∃ y, cs = f y ∧ G y)
    (hv : Value.okWide P W .any base T v) (h : DataW.Trod enc P W 0 (fun _ => true) true T v d p) (hwt : ∀ n ∈ DataW.weights P T d, n ≤ 140737488351232) :
    ∃ (ao : Option Addr) (L : List α) (cap : Nat), v = .slice ao L.length cap ∧ RAt K ao (L.map f) W ∧ (∀ x ∈ L, G x) ∧ L.length ≤ 140737488351232 := by
  obtain ⟨a0, len0, cap0, rfl⟩ := okWide_slice hT hv
  obtain ⟨fuel, hff⟩ := h
  obtain ⟨ao, L, cap, hcs, h1, h2, h3, _⟩ := open_row_cells T e K f G z hT hK hK0 hB hf hop hff hwt
  simp [Value.cells] at hcs
  obtain ⟨rfl, rfl, rfl⟩ := hcs
  exact ⟨_, L, _, rfl, h1, h2, h3⟩
end Go.Proofs.YtpfhlhcnmeodbaaDoor
namespace Go.Proofs.YtpfhlhcnmeodbaaDoor
open Go.RowKit Go.ChangeShapes Go.WideShapes Go.Deep
theorem weights_one {H : Type} {P : Program} {t : TypeId} (bs : List UInt8) : DataW.weights (H := H) P t (.lit (.string bs)) = [bs.length] := by simp [DataW.weights]
end Go.Proofs.YtpfhlhcnmeodbaaDoor
namespace Go.Proofs.YtpfhlhcnmeodbaaDoor
open Go.RowKit Go.ChangeShapes Go.WideShapes Go.Deep
structure AuthN.In (a : AuthN) : Prop where
  nlow : -9223372036854775808 ≤ a.node
  nhigh : a.node ≤ 9223372036854775807
  slow : -9223372036854775808 ≤ a.seq
  shigh : a.seq ≤ 9223372036854775807
  hash : IdOk a.hash
  sig : a.sig.length ≤ 140737488351232
set_option maxRecDepth 100000 in
theorem open_aut_cells {H : Type} {enc : TypeId × Value → H} {W : World} {n : Nat} {cs : List Value} {x : DataW H × List MemPlace}
    (h : DataW.trod enc Tryd.prog W 0 (fun _ => true) true n 26 cs = some x) (hwt : ∀ n ∈ DataW.weights Tryd.prog 26 x.1, n ≤ 140737488351232) :
    ∃ a : AuthN, cs = autL a ∧ a.In := by
  obtain ⟨xs, m, _, hx, hcl, hxl, hf⟩ := DataW.trod_struct Tryd.underlying26 h
  have hci : Tryd.prog.cellsOf 3 = 1 := by kernel_rfl
  have hcs : Tryd.prog.cellsOf 9 = 1 := by kernel_rfl
  have hcr : Tryd.prog.cellsOf 24 = 32 := by kernel_rfl
  have hce : Tryd.prog.cellsOf 26 = 35 := by kernel_rfl
  have hcu : Tryd.prog.cellsOf 5 = 1 := by kernel_rfl
  rw [hce] at hcl
  match xs, hxl with
  | [x0, x1, x2, x3], _ =>
  have t0 : DataW.trod enc Tryd.prog W 0 (fun _ => true) true m 3 ((cs.drop 0).take (Tryd.prog.cellsOf 3)) = some x0 := hf 0 _ rfl
  have t1 : DataW.trod enc Tryd.prog W 0 (fun _ => true) true m 3 ((cs.drop 1).take (Tryd.prog.cellsOf 3)) = some x1 := hf 1 _ rfl
  have t2 : DataW.trod enc Tryd.prog W 0 (fun _ => true) true m 24 ((cs.drop 2).take (Tryd.prog.cellsOf 24)) = some x2 := hf 2 _ rfl
  have t3 : DataW.trod enc Tryd.prog W 0 (fun _ => true) true m 9 ((cs.drop 34).take (Tryd.prog.cellsOf 9)) = some x3 := hf 3 _ rfl
  rw [hci] at t0 t1
  rw [hcr] at t2
  rw [hcs] at t3
  have hx1 : x.1 = .agg [x0.1, x1.1, x2.1, x3.1] := congrArg Prod.fst hx
  rw [hx1] at hwt
  simp only [DataW.weights, Tryd.underlying26] at hwt
  obtain ⟨k, e0, _, w0⟩ := DataW.trod_int Tryd.underlying3 t0
  obtain ⟨a, e1, _, w1⟩ := DataW.trod_int Tryd.underlying3 t1
  obtain ⟨l, e2, h41, h42⟩ := trod_bytesI Tryd.underlying24 Tryd.underlying5 hcu hcr t2
  obtain ⟨s3, e3, d3, _⟩ := DataW.trod_string Tryd.underlying9 t3
  have q3 : s3.data.toList.length ≤ 140737488351232 := hwt _ (by
    simp only [List.map_cons, List.map_nil, DataW.weightsEach, List.mem_append, d3, weights_one, List.mem_singleton]
    exact .inr (.inr (.inr (.inl trivial))))
  simp only [Lit.wf, Bool.and_eq_true, decide_eq_true_eq] at w0 w1
  refine ⟨⟨k, a, l, s3.data.toList⟩, ?_, ⟨w0.1, w0.2, w1.1, w1.2, ⟨h41, h42⟩, q3⟩⟩
  have hsplit : cs = ((cs.drop 0).take 1 ++ (cs.drop 1).take 1) ++ ((cs.drop 2).take 32 ++ (cs.drop 34).take 1) := by
    have s1 : ∀ i n, cs.drop i = (cs.drop i).take n ++ cs.drop (i + n) := fun i n => by rw [← List.drop_drop, List.take_append_drop]
    have hlast : (cs.drop 34).take 1 = cs.drop 34 := List.take_of_length_le (by rw [List.length_drop]; omega)
    rw [hlast]
    conv => lhs; rw [← List.drop_zero (l := cs), s1 0 1, s1 1 1, s1 2 32]
    simp only [List.append_assoc]
  rw [hsplit, e0, e1, e2, e3]
  rfl
set_option maxRecDepth 100000 in
theorem open_aut {H : Type} {enc : TypeId × Value → H} {W : World} {v : Value} {d : DataW H} {p : List MemPlace} {base : Nat} (hv : Value.okWide Tryd.prog W .any base 26 v)
    (h : DataW.Trod enc Tryd.prog W 0 (fun _ => true) true 26 v d p) (hwt : ∀ n ∈ DataW.weights Tryd.prog 26 d, n ≤ 140737488351232) :
    ∃ x : AuthN, v = .agg (autV x) ∧ x.In := by
  obtain ⟨cs, rfl, _⟩ := okWide_struct Tryd.underlying26 hv
  obtain ⟨fuel, hf⟩ := h
  obtain ⟨x, e, hx⟩ := open_aut_cells hf hwt
  exact ⟨x, congrArg Value.agg (Array.ext' (by rw [autV, List.toList_toArray]; exact e)), hx⟩
end Go.Proofs.YtpfhlhcnmeodbaaDoor
namespace Go.Proofs.YtpfhlhcnmeodbaaDoor
open Go.RowKit Go.ChangeShapes Go.WideShapes Go.Deep
set_option maxRecDepth 100000 in
theorem open_node_cells {H : Type} {enc : TypeId × Value → H} {W : World} {n : Nat} {cs : List Value} {x : DataW H × List MemPlace}
    (h : DataW.trod enc Tryd.prog W 0 (fun _ => true) true n 63 cs = some x) :
    ∃ a : NodeN, cs = nodL a ∧ a.Ok := by
  obtain ⟨xs, m, _, hx, hcl, hxl, hf⟩ := DataW.trod_struct Tryd.underlying63 h
  have hci : Tryd.prog.cellsOf 3 = 1 := by kernel_rfl
  have hcr : Tryd.prog.cellsOf 61 = 16 := by kernel_rfl
  have hce : Tryd.prog.cellsOf 63 = 17 := by kernel_rfl
  have hcu : Tryd.prog.cellsOf 5 = 1 := by kernel_rfl
  rw [hce] at hcl
  match xs, hxl with
  | [x0, x1], _ =>
  have t0 : DataW.trod enc Tryd.prog W 0 (fun _ => true) true m 61 ((cs.drop 0).take (Tryd.prog.cellsOf 61)) = some x0 := hf 0 _ rfl
  have t1 : DataW.trod enc Tryd.prog W 0 (fun _ => true) true m 3 ((cs.drop 16).take (Tryd.prog.cellsOf 3)) = some x1 := hf 1 _ rfl
  rw [hci] at t1
  rw [hcr] at t0
  obtain ⟨l, e0, h01, h02⟩ := trod_bytesI Tryd.underlying61 Tryd.underlying5 hcu hcr t0
  obtain ⟨k, e1, _, w1⟩ := DataW.trod_int Tryd.underlying3 t1
  simp only [Lit.wf, Bool.and_eq_true, decide_eq_true_eq] at w1
  refine ⟨⟨l, k⟩, ?_, ⟨⟨h01, h02⟩, w1.1, w1.2⟩⟩
  have hsplit : cs = (cs.drop 0).take 16 ++ (cs.drop 16).take 1 := by
    have hlast : (cs.drop 16).take 1 = cs.drop 16 := List.take_of_length_le (by rw [List.length_drop]; omega)
    rw [hlast, List.drop_zero, List.take_append_drop]
  rw [hsplit, e0, e1]
  rfl
set_option maxRecDepth 100000 in
theorem open_nodes {H : Type} {enc : TypeId × Value → H} {W : World} {v : Value} {d : DataW H} {p : List MemPlace} {base : Nat} (hv : Value.okWide Tryd.prog W .any base 45 v)
    (h : DataW.Trod enc Tryd.prog W 0 (fun _ => true) true 45 v d p) (hwt : ∀ n ∈ DataW.weights Tryd.prog 45 d, n ≤ 140737488351232) :
    ∃ (ao : Option Addr) (L : List NodeN) (cap : Nat), v = .slice ao L.length cap ∧ NodesAt ao L W ∧ (∀ x ∈ L, x.Ok) ∧ L.length ≤ 140737488351232 :=
  open_row 45 63 17 nodL NodeN.Ok ⟨List.replicate 16 0, 0⟩ Tryd.underlying45 (by kernel_rfl) (by decide) (by rw [show Tryd.prog.bytesOf 63 = 24 by kernel_rfl]; decide) (fun y hy => nodL_len hy) (fun _ _ _ h _ => open_node_cells h) hv h hwt
end Go.Proofs.YtpfhlhcnmeodbaaDoor
namespace Go.Proofs.YtpfhlhcnmeodbaaDoor.chainChecks
open Go.RowKit Go.BigFrame Go.Proofs.YtpfhlhcnmeodbaaDoor
set_option maxHeartbeats 4000000 in
set_option maxRecDepth 100000 in
theorem walk (w : World) (hk : KAt w) (a : AuthN) (ha : a.In) (ao : Option Addr) (L : List NodeN) (c : Nat) (hat : NodesAt ao L w) (hN : ∀ x ∈ L, x.Ok) (hl : L.length ≤ 140737488351232) :
    Calls Tryd.prog 4 #[.agg (autV a), .slice ao L.length c] w fun e w' => e = .returned (.bool true) ∧ Below w.heap.size w w' := by
  have HK := Lib.hid hk
  have HA := Lib.hid ha
  have HAT := Lib.hid hat
  have HNN := Lib.hid hN
  have HD := Lib.hid (fun (w' : World) (hs : a.sig.length ≤ 1000000) (hb : Below w.heap.size w w') => dev_check16 a ao L c w' ha.nlow ha.nhigh ha.slow ha.shigh ha.hash hs hN hl (RAt.below hat hb) (hk.below hb))
  have HF := Lib.hid (fun (w' : World) (hs : a.sig.length ≤ 1000000) (hb : Below w.heap.size w w') => ref_check16 a ao L c w' ha.nlow ha.nhigh ha.slow ha.shigh ha.hash hs hN hl (RAt.below hat hb))
  obtain ⟨n, hnn⟩ : ∃ n, L.length = n := ⟨_, rfl⟩
  obtain ⟨V, hV⟩ : ∃ V, checkN a L = V := ⟨_, rfl⟩
  rw [hnn] at hl HD HF ⊢
  rw [hV] at HD HF
  have HLS := Lib.hid ha.sig
  have HSA := Lib.hid (sizeAV ha.hash)
  clear hk ha hat hN hnn hV
  go_enter Tryd.func4, Tryd.ntmps4
  go_upto_region 1 with (fail)
  obtain ⟨w1, hw1⟩ : ∃ x', x' = w.alloc (.cells (autV a) 26) := ⟨_, rfl⟩
  rw [← hw1]
  have hb1 : Below w.heap.size w w1 := by rw [hw1]; exact (Below.refl _ _).alloc (Nat.le_refl _) _
  have HX1 := Lib.hid (show Cells w.heap.size 26 (autV a) w1 by rw [hw1]; exact heap_alloc_new w _)
  have HB1 := Lib.hid hb1
  have HK1 := Lib.hid (HK.out.below hb1)
  obtain ⟨g, hg⟩ : ∃ g, g = w.heap.size := ⟨_, rfl⟩
  rw [← hg] at HX1 ⊢
  clear hb1 hw1 hg
  go_wp2_with fail
  refine (alive16_any w1 HK1.out).mono ?_
  rintro e w2 ⟨rfl, hb2⟩
  have HX2 := Lib.hid (HX1.out.below hb2)
  have HB2 := Lib.hid (HB1.out.trans (hb2.mono HB1.out.size))
  clear hb2 HX1 HB1 HK1
  have hc := (aut_cells HA.out.hash HX2.out).2.2.2
  have hgl := HX2.out.lt
  have HCS := Lib.hid (fun (w' : World) (q : Below w2.heap.size w2 w') => (q.cell (p := ⟨g, 34, none⟩) hgl).trans hc)
  have HCA := Lib.hid (fun (w' : World) (q : Below w2.heap.size w2 w') => HX2.out.below q)
  obtain ⟨s, hs⟩ : ∃ s, a.sig.length = s := ⟨_, rfl⟩
  have HSS := Shut.mk hs
  clear hc hgl
  by_cases c1 : 6 < n
  · have HG := Lib.hid (show ∀ w', (binOp .gtr 3 (.int .i64 (n : Int)) (.int .i64 6)).run Tryd.prog w' = .ok (.bool true) w' from fun w' => by
      have : (6 : Int) < n := by omega
      go_simp)
    go_upto_region 3 with (fail)
    refine wp_region_class (fun w' => Below w2.heap.size w2 w') (by kernel_rfl) (by kernel_rfl) (Below.refl _ _).drew ?_
    repeat (first
      | go_big_quiet_skip
      | (go_big_quiet_want; refine quiet_bin .gtr 3 _ _ _ rfl (.int .i64 (n : Int)) (.int .i64 6) _ rfl rfl (fun _ => rfl) HG.out ?_; go_big_quiet_on; simp only [Act.put, List.setIfInBounds_toArray, List.set_cons_zero, List.set_cons_succ])
      | go_big_quiet_step ((intro hs'; rfl)))
    refine wpQuiet_nil ?_
    intro w9 hs9
    have HB9 := Lib.hid (HB2.out.trans (hs9.mono HB2.out.size))
    clear hs9
    go_wp2_with fail
    go_ret
    exact ⟨rfl, HB9.out⟩
  · have HG := Lib.hid (show ∀ w', (binOp .gtr 3 (.int .i64 (n : Int)) (.int .i64 6)).run Tryd.prog w' = .ok (.bool false) w' from fun w' => by
      have : ¬ (6 : Int) < n := by omega
      go_simp)
    by_cases c2 : 2000 < s
    · have HG2 := Lib.hid (show ∀ w', (binOp .gtr 3 (.int .i64 (s : Int)) (.int .i64 2000)).run Tryd.prog w' = .ok (.bool true) w' from fun w' => by
        have : (2000 : Int) < s := by omega
        go_simp)
      go_upto_region 3 with (fail)
      refine wp_region_class (fun w' => Below w2.heap.size w2 w') (by kernel_rfl) (by kernel_rfl) (Below.refl _ _).drew ?_
      repeat (first
        | go_big_quiet_skip
        | (go_big_quiet_want; refine quiet_load_cell 9 _ rfl ⟨g, 34, none⟩ _ rfl HCS.out Tryd.isAgg9 ?_; go_big_quiet_on; simp only [Act.put, List.setIfInBounds_toArray, List.set_cons_zero, List.set_cons_succ])
        | (go_big_quiet_want; refine quiet_bin .gtr 3 _ _ _ rfl (.int .i64 (n : Int)) (.int .i64 6) _ rfl rfl (fun _ => rfl) HG.out ?_; go_big_quiet_on; simp only [Act.put, List.setIfInBounds_toArray, List.set_cons_zero, List.set_cons_succ])
        | (go_big_quiet_want; refine quiet_bin .gtr 3 _ _ _ rfl (.int .i64 (s : Int)) (.int .i64 2000) _ rfl rfl (fun _ => rfl) HG2.out ?_; go_big_quiet_on; simp only [Act.put, List.setIfInBounds_toArray, List.set_cons_zero, List.set_cons_succ])
        | go_big_quiet_step ((intro hs'; rfl)))
      refine wpQuiet_nil ?_
      intro w9 hs9
      have HB9 := Lib.hid (HB2.out.trans (hs9.mono HB2.out.size))
      clear hs9
      go_wp2_with fail
      go_ret
      exact ⟨rfl, HB9.out⟩
    · have HG2 := Lib.hid (show ∀ w', (binOp .gtr 3 (.int .i64 (s : Int)) (.int .i64 2000)).run Tryd.prog w' = .ok (.bool false) w' from fun w' => by
        have : ¬ (2000 : Int) < s := by omega
        go_simp)
      have HSM := Lib.hid (show a.sig.length ≤ 1000000 by omega)
      have HDD := Lib.hid (fun (w' : World) (q : Below w2.heap.size w2 w') => HD.out w' HSM.out (HB2.out.trans (q.mono HB2.out.size)))
      have HFF := Lib.hid (fun (w' : World) (q : Below w2.heap.size w2 w') => HF.out w' HSM.out (HB2.out.trans (q.mono HB2.out.size)))
      have HVV := Lib.hid (show ∀ w', (binOp .eql 4 (.bool V) (.bool V)).run Tryd.prog w' = .ok (.bool true) w' from fun w' => by cases V <;> kernel_rfl)
      go_upto_region 3 with (fail)
      refine wp_region_class (fun w' => Below w2.heap.size w2 w') (by kernel_rfl) (by kernel_rfl) (Below.refl _ _).drew ?_
      repeat (first
        | go_big_quiet_skip
        | (go_big_quiet_want; refine quiet_load_cell 9 _ rfl ⟨g, 34, none⟩ _ rfl HCS.out Tryd.isAgg9 ?_; go_big_quiet_on; simp only [Act.put, List.setIfInBounds_toArray, List.set_cons_zero, List.set_cons_succ])
        | (go_big_quiet_want; refine quiet_load_cells 26 _ rfl g (autV a) 26 _ rfl HCA.out Tryd.underlying26 rfl HSA.out ?_; go_big_quiet_on; simp only [Act.put, List.setIfInBounds_toArray, List.set_cons_zero, List.set_cons_succ])
        | (go_big_quiet_want; refine quiet_bin .gtr 3 _ _ _ rfl (.int .i64 (n : Int)) (.int .i64 6) _ rfl rfl (fun _ => rfl) HG.out ?_; go_big_quiet_on; simp only [Act.put, List.setIfInBounds_toArray, List.set_cons_zero, List.set_cons_succ])
        | (go_big_quiet_want; refine quiet_bin .gtr 3 _ _ _ rfl (.int .i64 (s : Int)) (.int .i64 2000) _ rfl rfl (fun _ => rfl) HG2.out ?_; go_big_quiet_on; simp only [Act.put, List.setIfInBounds_toArray, List.set_cons_zero, List.set_cons_succ])
        | (go_big_quiet_want; refine quiet_bin .eql 4 _ _ _ rfl (.bool V) (.bool V) _ rfl rfl (fun _ => rfl) HVV.out ?_; go_big_quiet_on; simp only [Act.put, List.setIfInBounds_toArray, List.set_cons_zero, List.set_cons_succ])
        | go_big_quiet_step ((intro hs'; first
            | (go_at_call 20; exact (HDD.out _ hs').mono fun e w' h => ⟨h.1, hs'.trans (h.2.mono hs'.size)⟩)
            | (go_at_call 21; exact (HFF.out _ hs').mono fun e w' h => ⟨h.1, hs'.trans (h.2.mono hs'.size)⟩)
            | rfl)))
      refine wpQuiet_nil ?_
      intro w9 hs9
      have HB9 := Lib.hid (HB2.out.trans (hs9.mono HB2.out.size))
      clear hs9
      go_wp2_with fail
      go_ret
      exact ⟨rfl, HB9.out⟩
end Go.Proofs.YtpfhlhcnmeodbaaDoor.chainChecks
namespace Go.Proofs.YtpfhlhcnmeodbaaDoor.chainChecks
open Go.ChangeShapes Go.WideShapes Go.ChangeAt Go.RowKit
open Go.ChangeMaps (open_string shut_string)
set_option linter.unusedVariables false
theorem laid_met (os : Os) : laidMet Tryd.prog Rows.chainChecksRow.laid ((laidWorld os).forCall (fun _ _ => 0) ⟨#[], #[.agg (autV noA), .slice none 0 0], []⟩).memory :=
  laidMet_of_run' 8 (by kernel_rfl) (by kernel_rfl)
theorem reads (os : Os) {H : Type} (enc : TypeId × Value → H) : ∃ x, DataW.whole enc Tryd.prog ((laidWorld os).forCall (fun _ _ => 0) ⟨#[], #[.agg (autV noA), .slice none 0 0], []⟩).memory Tryd.f4.params.toList Rows.chainChecksSpec.vars false (#[.agg (autV noA), .slice none 0 0] : Array Value).toList 8 = some x :=
  ⟨([.agg [.lit (.int .i64 0), .lit (.int .i64 0), .agg [.lit (.int .u8 0), .lit (.int .u8 0), .lit (.int .u8 0), .lit (.int .u8 0), .lit (.int .u8 0), .lit (.int .u8 0), .lit (.int .u8 0), .lit (.int .u8 0), .lit (.int .u8 0), .lit (.int .u8 0), .lit (.int .u8 0), .lit (.int .u8 0), .lit (.int .u8 0), .lit (.int .u8 0), .lit (.int .u8 0), .lit (.int .u8 0), .lit (.int .u8 0), .lit (.int .u8 0), .lit (.int .u8 0), .lit (.int .u8 0), .lit (.int .u8 0), .lit (.int .u8 0), .lit (.int .u8 0), .lit (.int .u8 0), .lit (.int .u8 0), .lit (.int .u8 0), .lit (.int .u8 0), .lit (.int .u8 0), .lit (.int .u8 0), .lit (.int .u8 0), .lit (.int .u8 0), .lit (.int .u8 0)], .lit (.string [])], .nil], [], []), by kernel_rfl⟩
set_option maxRecDepth 100000 in
theorem lifted (os : Os) (started : os.Started) (H : Type) (enc : TypeId × Value → H) (F : Stop.Interp) :
    ReturnsInHanded {} Tryd.checked os 4 .any ((OpenSpec.ofChange Rows.chainChecksSpec).preRow enc Tryd.prog Tryd.f4 Rows.chainChecksRow.domain false Rows.chainChecksRow.laid) (((OpenSpec.ofChange Rows.chainChecksSpec).at F).post enc Tryd.prog Tryd.f4 false true false false) := by
  obtain ⟨x, hx⟩ := reads os enc
  refine returnsInHanded_of_row (C := Tryd.checked) (s := OpenSpec.ofChange Rows.chainChecksSpec) law_own started (by kernel_rfl) Tryd.func4
    (witness_row_at (enc := enc) (C := Tryd.checked) false (laidWorld os) #[.agg (autV noA), .slice none 0 0] rfl (by kernel_rfl) (by kernel_rfl) (by kernel_rfl)
      (OpenSpec.preRow_of_cond 8 hx rfl (fun k hk => by cases hk) (by kernel_rfl) (laid_met os))) ?_
  intro W base args ds gs before hval0 hW hcnd _ hsz0 hL _ _
  have hk : KAt W := k_laid hL
  have hsz : (DataW.weightsEach Tryd.prog (Tryd.f4.params.toList ++ (OpenSpec.ofChange Rows.chainChecksSpec).bare.plain.varTypes Tryd.prog) (ds ++ gs)).all (· ≤ reachBytes) = true := hsz0
  have hval : ∀ (j : Nat) t v, Tryd.f4.params[j]? = some t → args[j]? = some v → Value.okWide Tryd.prog W .any base t v := hval0
  have hW' := hW
  obtain ⟨p, q, hA0, hV, rfl, hfz, hnd⟩ := hW
  have hA : DataW.TrodAll enc Tryd.prog W 0 (fun _ => true) true Tryd.f4.params.toList args.toList ds p := hA0
  rw [Tryd.params4] at hA hval hsz
  obtain ⟨v0, vs0, d0, ds0, p0, q0, hargs, rfl, rfl, h0, r0⟩ := trodAll_cons hA
  obtain ⟨v1, vs1, d1, ds1, p1, q1, rfl, rfl, rfl, h1, r1⟩ := trodAll_cons r0
  obtain ⟨rfl, rfl, rfl⟩ := trodAll_nil r1
  obtain rfl : args = #[v0, v1] := by cases args; simp_all
  obtain ⟨rfl, rfl⟩ := trodVars_none hV
  have k0 := h0
  have lt0 : ∀ x ∈ p0, x.block < W.heap.size := by obtain ⟨m, hm⟩ := k0; exact DataW.trod_lt m _ _ _ hm
  have z0 : ∀ n ∈ DataW.weights Tryd.prog 26 d0, n ≤ 140737488351232 := fun n hn => of_decide_eq_true (List.all_eq_true.1 hsz n (DataW.weights_mem_each (j := 0) (t := 26) rfl rfl n hn))
  obtain ⟨x0, rfl, n0⟩ := open_aut (hval 0 26 v0 rfl rfl) h0 z0
  have k1 := h1
  have lt1 : ∀ x ∈ p1, x.block < W.heap.size := by obtain ⟨m, hm⟩ := k1; exact DataW.trod_lt m _ _ _ hm
  have z1 : ∀ n ∈ DataW.weights Tryd.prog 45 d1, n ≤ 140737488351232 := fun n hn => of_decide_eq_true (List.all_eq_true.1 hsz n (DataW.weights_mem_each (j := 1) (t := 45) rfl rfl n hn))
  obtain ⟨ao1, l1, c1, rfl, s1, n1, t1⟩ := open_nodes (hval 1 45 v1 rfl rfl) h1 z1
  clear hA0 hval0
  refine (walk W hk x0 n0 ao1 l1 c1 s1 n1 t1).mono fun e W' ⟨he, bel⟩ => ?_
  subst he
  exact ⟨_, rfl, _, _, _, [], _, [], hW', trodAll_mk1 (shut_bool Tryd.underlying4 _), (trodAll_cons_mk (Below.trod law_laidOut (by kernel_rfl) (of_decide_eq_true (by kernel_rfl)) k0 bel lt0) (trodAll_cons_mk (Below.trod law_laidOut (by kernel_rfl) (of_decide_eq_true (by kernel_rfl)) k1 bel lt1) trodAll_mk0)), rfl, bel.frame _, fun h => by cases h⟩
theorem said : Rows.ChainChecksSaid :=
  OpenClaim.holds_of_cond 4 Tryd.f4 rfl rfl rfl rfl rfl rfl rfl ⟨rfl, rfl, rfl, rfl, rfl⟩ rfl rfl rfl rfl rfl (by kernel_rfl) Tryd.func4 (by kernel_rfl)
    (of_decide_eq_true (by kernel_rfl)) (by unfold Func.isWrapper; first | (rw [if_pos (by decide +kernel)]; kernel_rfl) | (rw [if_neg (by decide +kernel)]; exact ⟨rfl, rfl⟩))
    (fun os started H enc _ F => by rw [OpenClaim.pre_eq_preRow]; exact lifted os started H enc F)
theorem plain (f : FuncId) (fn : Func) (hf : Tryd.pinned.checked.prog.funcNamed "tribunal/tribunallaw16.ChainChecks" = some f) (hfn : Tryd.pinned.checked.prog.funcs[f]? = some fn) :
    false = Tryd.pinned.checked.prog.looks [] ∧ ∀ (j : Nat) t, fn.params[j]? = some t → Tryd.pinned.checked.prog.wantsStandIn t = false := by
  obtain rfl : f = 4 := Option.some.inj ((show Tryd.prog.funcNamed "tribunal/tribunallaw16.ChainChecks" = some 4 by kernel_rfl).symm.trans hf) |>.symm
  obtain rfl : fn = Tryd.f4 := (Option.some.inj (Tryd.func4.symm.trans hfn)).symm
  refine ⟨by kernel_rfl, fun j t ht => ?_⟩
  have hall : Tryd.f4.params.toList.all (fun t => !Tryd.prog.wantsStandIn t) = true := by kernel_rfl
  have hm : t ∈ Tryd.f4.params.toList := Array.mem_toList_iff.2 (Array.mem_of_getElem? ht)
  have h0 := List.all_eq_true.1 hall t hm
  have h1 : Tryd.prog.wantsStandIn t = false := by simpa using h0
  exact h1
theorem proved : Rows.ChainChecksCardSaid :=
  Claim7.holds_tied_plain_at .later [] _ _ _ _ said (fun _ h => by cases h) (by kernel_rfl) (fun _ h => by cases h) chainChecks_row_tie rfl ⟨rfl, rfl⟩ (by kernel_rfl) rfl plain (by kernel_rfl)
#print axioms proved
end Go.Proofs.YtpfhlhcnmeodbaaDoor.chainChecks
