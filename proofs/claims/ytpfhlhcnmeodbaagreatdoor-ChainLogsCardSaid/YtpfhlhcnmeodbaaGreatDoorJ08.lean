/-
  Joined: Entries, rows of entries, rows of what goes out, that came in.; A node as a value; steps of regions.; A node's value: built, compared.; Words and nodes as values: where their fields lie, how they are built and compared; that came in.; The values of a printed region, together: what each is once it is there.; The document's GoodDraft.; A text copied over cells of one's own, wherever they lie; a block of cells laid over; facts of regions whose order is open: Ord (one comes behind another), NewC.turn.; The document's Good of layer 15.; Sizes of drafts and operations that the laws let through.; The developers' GoodDraft.; The developers' DraftText.; The document's num, DraftText.; Rows of texts of the call's own: one text, or a slice's texts, pushed.
-/
import Derived.Deep.Cut
import Derived.Deep.CutBlock
import Derived.Deep.CutRange
import Derived.Laws.AppendOwnNone
import Derived.Laws.IdiomCopy
import Derived.Laws.StructEq
import Derived.Test.YtpfhlhcnmeodbaaGreatDoorJ01
import Derived.Test.YtpfhlhcnmeodbaaGreatDoorJ02
import Derived.Test.YtpfhlhcnmeodbaaGreatDoorJ05
import Derived.Test.YtpfhlhcnmeodbaaGreatDoorJ06
import Derived.Test.YtpfhlhcnmeodbaaGreatDoorJ07
namespace Go.Proofs.YtpfhlhcnmeodbaaGreatDoor
open Go.RowKit Go.ChangeShapes Go.WideShapes Go.Deep
structure EntN.In (e : EntN) : Prop where
  d : e.d.In
  prev : IdOk e.prev
  klow : -9223372036854775808 ≤ e.kind
  khigh : e.kind ≤ 9223372036854775807
  flow : -9223372036854775808 ≤ e.src
  fhigh : e.src ≤ 9223372036854775807
  slow : -9223372036854775808 ≤ e.seq
  shigh : e.seq ≤ 9223372036854775807
  mlow : -9223372036854775808 ≤ e.mask
  mhigh : e.mask ≤ 9223372036854775807
  pay : e.pay.length ≤ 140737488351232
  sig : e.sig.length ≤ 140737488351232
theorem EntN.In.ok {e : EntN} (h : e.In) : e.Ok := ⟨h.d.ref, h.prev⟩
set_option maxRecDepth 100000 in
theorem open_ent_cells {H : Type} {enc : TypeId × Value → H} {W : World} {n : Nat} {cs : List Value} {x : DataW H × List MemPlace}
    (h : DataW.trod enc Tryz.prog W 0 (fun _ => true) true n 54 cs = some x) (hwt : ∀ n ∈ DataW.weights Tryz.prog 54 x.1, n ≤ 140737488351232) :
    ∃ e : EntN, cs = entL e ∧ e.In := by
  obtain ⟨xs, m, _, hx, hcl, hxl, hf⟩ := DataW.trod_struct Tryz.underlying54 h
  have hci : Tryz.prog.cellsOf 3 = 1 := by kernel_rfl
  have hcs : Tryz.prog.cellsOf 9 = 1 := by kernel_rfl
  have hcr : Tryz.prog.cellsOf 43 = 32 := by kernel_rfl
  have hcd : Tryz.prog.cellsOf 52 = 35 := by kernel_rfl
  have hce : Tryz.prog.cellsOf 54 = 73 := by kernel_rfl
  have hcu : Tryz.prog.cellsOf 5 = 1 := by kernel_rfl
  rw [hce] at hcl
  match xs, hxl with
  | [x0, x1, x2, x3, x4, x5, x6, x7], _ =>
  have t0 : DataW.trod enc Tryz.prog W 0 (fun _ => true) true m 3 ((cs.drop 0).take (Tryz.prog.cellsOf 3)) = some x0 := hf 0 _ rfl
  have t1 : DataW.trod enc Tryz.prog W 0 (fun _ => true) true m 52 ((cs.drop 1).take (Tryz.prog.cellsOf 52)) = some x1 := hf 1 _ rfl
  have t2 : DataW.trod enc Tryz.prog W 0 (fun _ => true) true m 3 ((cs.drop 36).take (Tryz.prog.cellsOf 3)) = some x2 := hf 2 _ rfl
  have t3 : DataW.trod enc Tryz.prog W 0 (fun _ => true) true m 3 ((cs.drop 37).take (Tryz.prog.cellsOf 3)) = some x3 := hf 3 _ rfl
  have t4 : DataW.trod enc Tryz.prog W 0 (fun _ => true) true m 43 ((cs.drop 38).take (Tryz.prog.cellsOf 43)) = some x4 := hf 4 _ rfl
  have t5 : DataW.trod enc Tryz.prog W 0 (fun _ => true) true m 3 ((cs.drop 70).take (Tryz.prog.cellsOf 3)) = some x5 := hf 5 _ rfl
  have t6 : DataW.trod enc Tryz.prog W 0 (fun _ => true) true m 9 ((cs.drop 71).take (Tryz.prog.cellsOf 9)) = some x6 := hf 6 _ rfl
  have t7 : DataW.trod enc Tryz.prog W 0 (fun _ => true) true m 9 ((cs.drop 72).take (Tryz.prog.cellsOf 9)) = some x7 := hf 7 _ rfl
  rw [hci] at t0 t2 t3 t5
  rw [hcs] at t6 t7
  rw [hcr] at t4
  rw [hcd] at t1
  have hx1 : x.1 = .agg [x0.1, x1.1, x2.1, x3.1, x4.1, x5.1, x6.1, x7.1] := congrArg Prod.fst hx
  rw [hx1] at hwt
  simp only [DataW.weights, Tryz.underlying54] at hwt
  obtain ⟨d, e1, hd⟩ := open_draft_cells t1 (fun q hq => hwt q (by
    simp only [List.map_cons, List.map_nil, DataW.weightsEach, List.mem_append]
    exact .inr (.inl hq)))
  obtain ⟨k, e0, _, w0⟩ := DataW.trod_int Tryz.underlying3 t0
  obtain ⟨a, e2, _, w2⟩ := DataW.trod_int Tryz.underlying3 t2
  obtain ⟨b, e3, _, w3⟩ := DataW.trod_int Tryz.underlying3 t3
  obtain ⟨l, e4, h41, h42⟩ := trod_bytesI Tryz.underlying43 Tryz.underlying5 hcu hcr t4
  obtain ⟨c, e5, _, w5⟩ := DataW.trod_int Tryz.underlying3 t5
  obtain ⟨s6, e6, d6, _⟩ := DataW.trod_string Tryz.underlying9 t6
  obtain ⟨s7, e7, d7, _⟩ := DataW.trod_string Tryz.underlying9 t7
  have q6 : s6.data.toList.length ≤ 140737488351232 := hwt _ (by
    simp only [List.map_cons, List.map_nil, DataW.weightsEach, List.mem_append, d6, weights_one, List.mem_singleton]
    exact .inr (.inr (.inr (.inr (.inr (.inr (.inl trivial)))))))
  have q7 : s7.data.toList.length ≤ 140737488351232 := hwt _ (by
    simp only [List.map_cons, List.map_nil, DataW.weightsEach, List.mem_append, d7, weights_one, List.mem_singleton]
    exact .inr (.inr (.inr (.inr (.inr (.inr (.inr (.inl trivial))))))))
  simp only [Lit.wf, Bool.and_eq_true, decide_eq_true_eq] at w0 w2 w3 w5
  refine ⟨⟨k, d, a, b, l, c, s6.data.toList, s7.data.toList⟩, ?_, ⟨hd, ⟨h41, h42⟩, w0.1, w0.2, w2.1, w2.2, w3.1, w3.2, w5.1, w5.2, q6, q7⟩⟩
  have hsplit : cs = (cs.drop 0).take 1 ++ ((cs.drop 1).take 35 ++ (((cs.drop 36).take 1 ++ (cs.drop 37).take 1) ++ ((cs.drop 38).take 32 ++ ((cs.drop 70).take 1 ++ ((cs.drop 71).take 1 ++ (cs.drop 72).take 1))))) := by
    have s1 : ∀ i n, cs.drop i = (cs.drop i).take n ++ cs.drop (i + n) := fun i n => by rw [← List.drop_drop, List.take_append_drop]
    have hlast : (cs.drop 72).take 1 = cs.drop 72 := List.take_of_length_le (by rw [List.length_drop]; omega)
    rw [hlast]
    conv => lhs; rw [← List.drop_zero (l := cs), s1 0 1, s1 1 35, s1 36 1, s1 37 1, s1 38 32, s1 70 1, s1 71 1]
    simp only [List.append_assoc]
  rw [hsplit, e0, e1, e2, e3, e4, e5, e6, e7]
  rfl
end Go.Proofs.YtpfhlhcnmeodbaaGreatDoor
namespace Go.Proofs.YtpfhlhcnmeodbaaGreatDoor
open Go.RowKit Go.BigFrame
def nodeV (root : List Nat) (h : Int) : Array Value := (nums .u8 root ++ [Value.int .i64 h]).toArray
theorem node_height {g : Nat} {t : TypeId} {root : List Nat} {h : Int} {w : World} (hr : root.length = 16) (hc : Cells g t (nodeV root h) w) : w.cell? ⟨g, 16, none⟩ = some (.int .i64 h) := by
  rw [Lib.cell_of_heap hc, nodeV, List.getElem?_toArray, List.getElem?_append_right (by rw [nums_len, hr]; decide), nums_len, hr]
  rfl
theorem node_root {g : Nat} {t : TypeId} {root : List Nat} {h : Int} {w : World} (hc : Cells g t (nodeV root h) w) : w.rangeAt g 0 (nums .u8 root) := by
  intro j v hj
  rw [Nat.zero_add, Lib.cell_of_heap hc, nodeV, List.getElem?_toArray, List.getElem?_append_left (List.getElem?_eq_some_iff.1 hj).1, hj]
theorem op_slice_head {P : Program} {o : Oper} {a : Act} {w : World} {K : Act → World → Prop} {Q : Exit → Act → World → Prop} (ty : TypeId) (x : Operand) (n : Nat) (ho : o.op = .slice ty x none (some (.const (.int .i64 n))) none) (s : List UInt8) (hx : a.eval x = .string ⟨s.toArray⟩)
    (hu : P.underlying ty = some .string) (hn : n ≤ s.length) (h : K (a.put o.dst (.string ⟨(s.take n).toArray⟩)) w) : OpWp P o a w K Q := by
  have hr := run_slice_string_h (P := P) w ty ⟨s.toArray⟩ hu .i64 (n : Int) (by omega) (by show (n : Int) ≤ ((⟨s.toArray⟩ : ByteArray).size : Int); simp [ByteArray.size]; omega)
  rw [Int.toNat_natCast, extract_head] at hr
  have hr2 := (run_sliceAt_string (P := P) w ty (.string ⟨s.toArray⟩) none (some (.int .i64 (n : Int))) none hu).trans hr
  refine ⟨?_⟩
  unfold Oper.wp execOp
  simp only [ho, Option.map_some, Option.map_none, show a.eval (.const (.int .i64 (n : Int))) = .int .i64 (n : Int) from rfl, hx, Sem.run_bind, Sem.run_pure, hr2, Result.andThen_ok]
  exact h
theorem op_field0 {P : Program} {o : Oper} {a : Act} {w : World} {K : Act → World → Prop} {Q : Exit → Act → World → Prop} (ty : TypeId) (x : Operand) (ho : o.op = .fieldAddr ty x 0) (g : Nat) (hx : a.eval x = .pointer (some ⟨g, 0, none⟩))
    (hr : ∀ w, (Instr.fieldAt ty (.pointer (some ⟨g, 0, none⟩)) 0).run P w = .ok (.pointer (some ⟨g, 0, none⟩)) w) (h : K (a.put o.dst (.pointer (some ⟨g, 0, none⟩))) w) : OpWp P o a w K Q := by
  refine ⟨?_⟩
  unfold Oper.wp execOp
  simp only [ho, hx, Sem.run_bind, Sem.run_pure, hr, Result.andThen_ok]
  exact h
end Go.Proofs.YtpfhlhcnmeodbaaGreatDoor
namespace Go.Proofs.YtpfhlhcnmeodbaaGreatDoor
open Go.RowKit Go.BigFrame
theorem node_fill (parts : List (Nat × Value)) : Tryz.prog.built 31 parts = Instr.fill (fun i => (#[(0, 16), (16, 1)] : Array (Nat × Nat))[i]?) (nodeV (List.replicate 16 0) 0) parts := by kernel_rfl
theorem fold_lay0 : ∀ (vs : List Value) (cs : Array Value) (k : Nat), List.foldl (fun (cs : Array Value) (x : Value × Nat) => cs.setIfInBounds (0 + x.2) x.1) cs (vs.zipIdx k) = (layL cs.toList k vs).toArray
  | [], cs, k => by simp [layL]
  | v :: r, cs, k => by rw [List.zipIdx_cons, List.foldl_cons, fold_lay0 r, layL]; simp
theorem lay_head {vs xs ys : List Value} (h : vs.length = xs.length) : layL (xs ++ ys) 0 vs = vs ++ ys := by
  refine List.ext_getElem? fun j => ?_
  rw [layL_get _ _ _ _ (by rw [List.length_append]; omega)]
  by_cases hj : j < vs.length
  · rw [if_pos (by omega), Nat.sub_zero, List.getElem?_append_left hj]
  · rw [if_neg (by omega), List.getElem?_append_right (by omega), List.getElem?_append_right (by omega), h]
theorem fill_next (place : Nat → Option (Nat × Nat)) (cells : Array Value) (i : Nat) (v : Value) (rest : List (Nat × Value)) (off size : Nat) (hp : place i = some (off, size)) (h1 : v.cells.size = size) (h2 : off + size ≤ cells.size) :
    Instr.fill place cells ((i, v) :: rest) = Instr.fill place (v.cells.toList.zipIdx.foldl (fun (cs : Array Value) (x : Value × Nat) => cs.setIfInBounds (off + x.2) x.1) cells) rest := by
  rw [Instr.fill]
  simp only [hp]
  rw [if_neg (by simp [h1]; omega)]
  congr 1
  rw [← Array.foldl_toList, Array.toList_zipIdx]
theorem built_node (r : List Nat) (h : Int) (hr : r.length = 16) : Tryz.prog.built 31 [(0, .agg (nums .u8 r).toArray), (1, .int .i64 h)] = some (nodeV r h) := by
  have h16 : (nums .u8 r).length = 16 := by rw [nums_len, hr]
  rw [node_fill]
  have e2 : (nodeV r 0).setIfInBounds (16 + 0) (.int .i64 h) = nodeV r h := by
    rw [nodeV, nodeV, List.setIfInBounds_toArray, List.set_append_right _ _ (by omega), h16]
    rfl
  have hs1 : (Value.agg (nums .u8 r).toArray).cells.size = 16 := by show (nums .u8 r).toArray.size = 16; rw [List.size_toArray, h16]
  have hs2 : (nodeV r 0).size = 17 := by rw [nodeV, List.size_toArray, List.length_append, h16]; rfl
  have hs3 : (nodeV (List.replicate 16 0) 0).size = 17 := by rfl
  rw [fill_next _ _ 0 _ _ 0 16 rfl hs1 (by rw [hs3]; decide)]
  rw [show (Value.agg (nums .u8 r).toArray).cells.toList = nums .u8 r from rfl, fold_lay0, show (nodeV (List.replicate 16 0) 0).toList = nums .u8 (List.replicate 16 0) ++ [Value.int .i64 0] from rfl, lay_head (by rw [nums_len, nums_len, hr]; rfl)]
  rw [show (nums .u8 r ++ [Value.int .i64 0]).toArray = nodeV r 0 from rfl]
  rw [fill_next _ _ 1 _ _ 16 1 rfl rfl (by rw [hs2]; decide)]
  show some ((nodeV r 0).setIfInBounds (16 + 0) (.int .i64 h)) = _
  rw [e2]
theorem wpList_build_node {ops : Array Oper} {rest : List Oper} {o : Oper} {a : Act} {w : World} {Q : Exit → Act → World → Prop} (hg : o.guard = none) (x y : Operand) (ho : o.op = .build 31 #[(0, x), (1, y)]) (r : List Nat) (h : Int)
    (hx : a.eval x = .agg (nums .u8 r).toArray) (hy : a.eval y = .int .i64 h) (hr : r.length = 16) (hk : wpList Tryz.prog ops Q rest (a.put o.dst (.agg (nodeV r h))) w) : wpList Tryz.prog ops Q (o :: rest) a w := by
  refine wpList_plain hg fun K hK => ?_
  have e : ((#[(0, x), (1, y)] : Array (Nat × Operand)).map fun (i, x) => (i, a.eval x)) = #[(0, .agg (nums .u8 r).toArray), (1, .int .i64 h)] := by simp [hx, hy]
  have hb := run_build (P := Tryz.prog) w 31 #[(0, .agg (nums .u8 r).toArray), (1, .int .i64 h)] _ (built_node r h hr)
  unfold Oper.wp execOp
  simp only [ho, e, Sem.run_bind, hb, Result.andThen_ok]
  exact hK _ _ hk
theorem quiet_build_node {o : Oper} {a : Act} {C : World → Prop} {K : Act → Prop} (x y : Operand) (ho : o.op = .build 31 #[(0, x), (1, y)]) (r : List Nat) (h : Int)
    (hx : a.eval x = .agg (nums .u8 r).toArray) (hy : a.eval y = .int .i64 h) (hr : r.length = 16) (hk : K (a.put o.dst (.agg (nodeV r h)))) : o.quiet Tryz.prog a C K := by
  refine ⟨_, fun w hw => ?_, hk⟩
  have e : ((#[(0, x), (1, y)] : Array (Nat × Operand)).map fun (i, x) => (i, a.eval x)) = #[(0, .agg (nums .u8 r).toArray), (1, .int .i64 h)] := by simp [hx, hy]
  have hb := run_build (P := Tryz.prog) w 31 #[(0, .agg (nums .u8 r).toArray), (1, .int .i64 h)] _ (built_node r h hr)
  unfold Oper.quietAt execOp
  simp only [ho, e, Sem.run_bind, hb, Result.andThen_ok]
  exact ⟨rfl, rfl⟩
end Go.Proofs.YtpfhlhcnmeodbaaGreatDoor
namespace Go.Proofs.YtpfhlhcnmeodbaaGreatDoor
open Go.RowKit Go.BigFrame
def autL (a : AuthN) : List Value := [.int .i64 a.node, .int .i64 a.seq] ++ (nums .u8 a.hash ++ [.string ⟨a.sig.toArray⟩])
def autV (a : AuthN) : Array Value := (autL a).toArray
theorem autL_len {a : AuthN} (h : IdOk a.hash) : (autL a).length = 35 := by simp only [autL, List.length_append, nums_len, h.1, List.length_cons, List.length_nil]
theorem autL_one (a : AuthN) : ∀ u ∈ autL a, u.oneCell' = true := fun u hu => by
  simp only [autL, List.mem_append, List.mem_cons, List.not_mem_nil, or_false] at hu
  rcases hu with (rfl | rfl) | hu | rfl
  · rfl
  · rfl
  · exact nums_one _ _ u hu
  · rfl
theorem autV_all (a : AuthN) : (autV a).all (·.oneCell') = true := by
  rw [autV, List.all_toArray]
  exact List.all_eq_true.2 (autL_one a)
theorem autV_size {a : AuthN} (h : IdOk a.hash) : (autV a).size = 35 := autL_len h
theorem Tryz.sizeAu : (Tryz.prog.info? 45).map (·.size) = some 35 := by kernel_rfl
theorem sizeAV {a : AuthN} (h : IdOk a.hash) : (Tryz.prog.info? 45).map (·.size) = some (autV a).size := by rw [autV_size h]; exact Tryz.sizeAu
theorem aut_at {b o : Nat} {a : AuthN} {w : World} (hok : IdOk a.hash) (h : w.rangeAt b o (autL a)) :
    w.cell? ⟨b, o, none⟩ = some (.int .i64 a.node) ∧ w.cell? ⟨b, o + 1, none⟩ = some (.int .i64 a.seq) ∧ w.rangeAt b (o + 2) (nums .u8 a.hash) ∧ w.cell? ⟨b, o + 34, none⟩ = some (.string ⟨a.sig.toArray⟩) := by
  obtain ⟨h0, h⟩ := rangeAt_app h
  obtain ⟨h1, h⟩ := rangeAt_app h
  simp only [List.length_cons, List.length_nil, nums_len, hok.1, Nat.zero_add, Nat.reduceAdd, Nat.add_assoc] at h1 h
  exact ⟨h0 0 _ rfl, h0 1 _ rfl, h1, h 0 _ rfl⟩
theorem aut_range {g : Nat} {t : TypeId} {a : AuthN} {w : World} (h : Cells g t (autV a) w) : w.rangeAt g 0 (autL a) := fun j v hj => by
  rw [Nat.zero_add, h.at, autV, List.getElem?_toArray]
  exact hj
theorem aut_cells {g : Nat} {t : TypeId} {a : AuthN} {w : World} (hok : IdOk a.hash) (h : Cells g t (autV a) w) :
    w.cell? ⟨g, 0, none⟩ = some (.int .i64 a.node) ∧ w.cell? ⟨g, 1, none⟩ = some (.int .i64 a.seq) ∧ w.rangeAt g 2 (nums .u8 a.hash) ∧ w.cell? ⟨g, 34, none⟩ = some (.string ⟨a.sig.toArray⟩) := by
  have k := aut_at hok (aut_range h)
  simp only [Nat.zero_add] at k
  exact k
def placeA : Nat → Option (Nat × Nat) := fun i => (#[(0, 1), (1, 1), (2, 32), (34, 1)] : Array (Nat × Nat))[i]?
theorem aut_fill (parts : List (Nat × Value)) : Tryz.prog.built 45 parts = Instr.fill placeA (autV noA) parts := by kernel_rfl
theorem built_aut0 : Tryz.prog.built 45 [] = some (autV noA) := by rw [aut_fill]; rfl
theorem fill_aut (i off size : Nat) (v : Value) (rest : List (Nat × Value)) (a b : AuthN) (xs ys zs vs : List Value) (hp : placeA i = some (off, size)) (ha : autL a = xs ++ (ys ++ zs)) (hb : autL b = xs ++ (vs ++ zs)) (hv : v.cells.toList = vs) (h1 : vs.length = size) (h2 : ys.length = size) (h3 : xs.length = off) :
    Instr.fill placeA (autV a) ((i, v) :: rest) = Instr.fill placeA (autV b) rest := by
  rw [autV, autV, ha, hb]
  exact fill_lay placeA i off size v rest xs ys zs vs hp hv h1 h2 h3
section
variable (a : AuthN) (rest : List (Nat × Value))
theorem fillA_node (k : Int) : Instr.fill placeA (autV a) ((0, .int .i64 k) :: rest) = Instr.fill placeA (autV { a with node := k }) rest :=
  fill_aut 0 0 1 _ rest a { a with node := k } [] [.int .i64 a.node] ([.int .i64 a.seq] ++ (nums .u8 a.hash ++ [.string ⟨a.sig.toArray⟩])) [.int .i64 k] rfl (by simp [autL]) (by simp [autL]) rfl rfl rfl rfl
theorem fillA_seq (k : Int) : Instr.fill placeA (autV a) ((1, .int .i64 k) :: rest) = Instr.fill placeA (autV { a with seq := k }) rest :=
  fill_aut 1 1 1 _ rest a { a with seq := k } [.int .i64 a.node] [.int .i64 a.seq] (nums .u8 a.hash ++ [.string ⟨a.sig.toArray⟩]) [.int .i64 k] rfl (by simp [autL]) (by simp [autL]) rfl rfl rfl rfl
theorem fillA_hash (ha : IdOk a.hash) (p : List Nat) (hp : IdOk p) : Instr.fill placeA (autV a) ((2, .agg (nums .u8 p).toArray) :: rest) = Instr.fill placeA (autV { a with hash := p }) rest :=
  fill_aut 2 2 32 _ rest a { a with hash := p } [.int .i64 a.node, .int .i64 a.seq] (nums .u8 a.hash) [.string ⟨a.sig.toArray⟩] (nums .u8 p) rfl (by simp [autL]) (by simp [autL]) rfl (by rw [nums_len, hp.1]) (by rw [nums_len, ha.1]) rfl
theorem fillA_sig (ha : IdOk a.hash) (s : List UInt8) : Instr.fill placeA (autV a) ((3, .string ⟨s.toArray⟩) :: rest) = Instr.fill placeA (autV { a with sig := s }) rest :=
  fill_aut 3 34 1 _ rest a { a with sig := s } ([.int .i64 a.node, .int .i64 a.seq] ++ nums .u8 a.hash) [.string ⟨a.sig.toArray⟩] [] [.string ⟨s.toArray⟩] rfl (by simp [autL]) (by simp [autL]) rfl rfl rfl (by simp [nums_len, ha.1])
end
theorem built_aut (a : AuthN) (ha : IdOk a.hash) : Tryz.prog.built 45 [(0, .int .i64 a.node), (1, .int .i64 a.seq), (2, .agg (nums .u8 a.hash).toArray), (3, .string ⟨a.sig.toArray⟩)] = some (autV a) := by
  rw [aut_fill, fillA_node, fillA_seq, fillA_hash _ _ zeroI_ok _ ha]
  exact (fillA_sig ⟨a.node, a.seq, a.hash, []⟩ [] ha a.sig).trans (by rw [fill_end])
theorem aut_fields : (Tryz.prog.fieldsOf 45).toList.map (fun f => (f.name, f.type, f.offset)) = [("Node", 3, 0), ("Seq", 3, 1), ("Hash", 43, 2), ("Sig", 9, 34)] := by kernel_rfl
theorem aut_part (a : AuthN) (ha : IdOk a.hash) (w : World) : (Go.part 3 (autV a) 0).run Tryz.prog w = .ok (.int .i64 a.node) w ∧ (Go.part 3 (autV a) 1).run Tryz.prog w = .ok (.int .i64 a.seq) w ∧
    (Go.part 43 (autV a) 2).run Tryz.prog w = .ok (.agg (nums .u8 a.hash).toArray) w ∧ (Go.part 9 (autV a) 34).run Tryz.prog w = .ok (.string ⟨a.sig.toArray⟩) w := by
  refine ⟨part_cell (by kernel_rfl) rfl, part_cell (by kernel_rfl) rfl, part_row (n := 32) (by kernel_rfl) (by kernel_rfl) (ext_mid [.int .i64 a.node, .int .i64 a.seq] (nums .u8 a.hash) [.string ⟨a.sig.toArray⟩] 2 32 rfl (by rw [nums_len, ha.1])), part_cell (by kernel_rfl) ?_⟩
  have h := get_mid ([.int .i64 a.node, .int .i64 a.seq] ++ nums .u8 a.hash) (.string ⟨a.sig.toArray⟩) [] 34 (by simp [nums_len, ha.1])
  rw [← h]
  simp [autV, autL]
def eqAB (a b : AuthN) : Bool := (a.node == b.node) && ((a.seq == b.seq) && ((a.hash == b.hash) && ((a.sig == b.sig) && true)))
theorem eqAB_eq (a b : AuthN) : eqAB a b = decide (a = b) := by
  obtain ⟨a1, a2, a3, a4⟩ := a
  obtain ⟨b1, b2, b3, b4⟩ := b
  simp only [eqAB, AuthN.mk.injEq]
  rw [Bool.eq_iff_iff]
  simp
theorem equal_aut (a b : AuthN) (ha : IdOk a.hash) (hb : IdOk b.hash) (w : World) :
    (Op.equalIn 10000 45 (.agg (autV a)) (.agg (autV b))).run Tryz.prog w = .ok (decide (a = b)) w := by
  have hs := run_equalIn_struct (P := Tryz.prog) w 9999 45 (autV a) (autV b) (by kernel_rfl) (by kernel_rfl)
  rw [show 9999 + 1 = 10000 from rfl] at hs
  rw [hs]
  obtain ⟨f0, f1, f2, f3, hf, h0, h1, h2, h3⟩ := fields4 aut_fields
  rw [hf]
  obtain ⟨p0, p1, p2, p3⟩ := aut_part a ha w
  obtain ⟨q0, q1, q2, q3⟩ := aut_part b hb w
  have e0 := run_equalIn_int (P := Tryz.prog) w 9998 3 .i64 .i64 a.node b.node Tryz.underlying3
  have e1 := run_equalIn_int (P := Tryz.prog) w 9998 3 .i64 .i64 a.seq b.seq Tryz.underlying3
  have e2 : (Op.equalIn 9999 43 (.agg (nums .u8 a.hash).toArray) (.agg (nums .u8 b.hash).toArray)).run Tryz.prog w = .ok (a.hash == b.hash) w := by
    rw [cells_txt ha.2, cells_txt hb.2, run_equalIn_bytes w 9997 43 5 32 Tryz.underlying43 Tryz.underlying5 Tryz.sizeOf5 (txt a.hash) (txt b.hash) (by rw [txt_len, ha.1]) (by rw [txt_len, hb.1]), txt_beq ha.2 hb.2]
  have e3 := run_equal_text (P := Tryz.prog) (w := w) 9998 9 a.sig b.sig Tryz.underlying9
  have h := eqFields_cons h0 (by decide) p0 q0 e0 (eqFields_cons h1 (by decide) p1 q1 e1 (eqFields_cons h2 (by decide) p2 q2 e2 (eqFields_cons h3 (by decide) p3 q3 e3 eqFields_nil)))
  rw [h, ← eqAB_eq]
  rfl
theorem eql_aut (a b : AuthN) (ha : IdOk a.hash) (hb : IdOk b.hash) (w : World) : (binOp .eql 45 (.agg (autV a)) (.agg (autV b))).run Tryz.prog w = .ok (.bool (decide (a = b))) w := by
  rw [run_eql_struct, equal_aut a b ha hb]
  rfl
theorem guard_aut (x y : Operand) (u v : Array Value) (w : World) : (eqGuard .eql 45 x y (.agg u) (.agg v)).run Tryz.prog w = .ok () w := run_eqGuard_agg w .eql 45 x y u v (by kernel_rfl)
def nodL (n : NodeN) : List Value := nums .u8 n.root ++ [.int .i64 n.height]
theorem nodL_len {n : NodeN} (h : n.Ok) : (nodL n).length = 17 := by rw [nodL, List.length_append, nums_len, h.root.1]; rfl
theorem nodV_eq (n : NodeN) : nodeV n.root n.height = (nodL n).toArray := rfl
theorem Tryz.sizeNo : (Tryz.prog.info? 31).map (·.size) = some 17 := by kernel_rfl
theorem cells_range {g : Nat} {t : TypeId} {L : List Value} {w : World} (h : Cells g t L.toArray w) : w.rangeAt g 0 L := fun j v hj => by
  rw [Nat.zero_add, h.at, List.getElem?_toArray]
  exact hj
end Go.Proofs.YtpfhlhcnmeodbaaGreatDoor
namespace Go.Proofs.YtpfhlhcnmeodbaaGreatDoor
open Go.RowKit Go.BigFrame
def Vals (q : Nat → Bool) (V : Nat → Value) (L : List (Nat × Value)) : Prop := ∀ n v, q n = true → L.lookup n = some v → V n = v
section
variable {q : Nat → Bool} {V : Nat → Value} {L : List (Nat × Value)} {i n : Nat} {v u : Value}
theorem Vals.none : Vals (fun _ => false) V L := fun _ _ h => by cases h
theorem Vals.set (h : Vals q V L) (hl : L.lookup i = some v) : Vals (fun j => q j || j == i) (upd V i v) L := fun n x hn hx => by
  by_cases e : n = i
  · subst e
    rw [upd_same]
    exact Option.some.inj (hl.symm.trans hx)
  · rw [upd_ne V v e]
    exact h n x (seen_ne e hn) hx
theorem Vals.off (h : Vals q V L) (hl : L.lookup i = Option.none) : Vals (fun j => q j || j == i) (upd V i u) L := fun n x hn hx => by
  by_cases e : n = i
  · subst e
    rw [hl] at hx
    cases hx
  · rw [upd_ne V u e]
    exact h n x (seen_ne e hn) hx
theorem Vals.get (h : Vals q V L) (n : Nat) (hq : q n = true) (hl : L.lookup n = some v) : V n = v := h n v hq hl
end
example (q : Nat → Bool) (V : Nat → Value) (a b c : Value) (h : Vals q V [(0, a), (1, b), (2, .bool true), (5, c)]) (hq : ∀ i, i < 6 → q i = true) (K : Value → (Nat → Bool) → (Nat → Value) → Prop) (hK : ∀ v, Vals (fun j => q j || j == 5) (upd V 5 v) [(0, a), (1, b), (2, .bool true), (5, c)] ∧ True → K v q V) : K c q V ∧ V 1 = b := by
  refine ⟨hK _ ⟨h.set rfl, trivial⟩, ?_⟩
  have v1 := h.get 1 (hq 1 (by decide)) rfl
  have v2 := h.get 2 (hq 2 (by decide)) rfl
  have v5 := h.get 5 (hq 5 (by decide)) rfl
  exact v1
example (q : Nat → Bool) (V : Nat → Value) (a b c : Value) (h : Vals q V [(0, a), (1, b), (2, .bool true), (5, c)]) (u : Value) : Vals (fun j => q j || j == 3) (upd V 3 u) [(0, a), (1, b), (2, .bool true), (5, c)] := h.off rfl
end Go.Proofs.YtpfhlhcnmeodbaaGreatDoor
namespace Go.Proofs.YtpfhlhcnmeodbaaGreatDoor
open Go.RowKit Go.BigFrame
set_option maxHeartbeats 2000000 in
set_option maxRecDepth 100000 in
theorem ref_goodDraft (d : DraftN) (hr : IdOk d.ref) (hk : d.key.length ≤ 140737488351232) (hv : d.val.length ≤ 140737488351232) (w : World) :
    Calls Tryz.prog 31 #[.agg (draftV d)] w fun e w' => e = .returned (.bool (decide (GoodD d))) ∧ Below w.heap.size w w' := by
  have hx : Cells w.heap.size 52 (draftV d) (w.alloc (.cells (draftV d) 52)) := heap_alloc_new w _
  have hb : Below w.heap.size w (w.alloc (.cells (draftV d) 52)) := (Below.refl _ _).alloc (Nat.le_refl _) _
  obtain ⟨c0, c1, c2, c3⟩ := draft_cells hx
  have HC3 := Lib.hid c3
  have HB := Lib.hid hb
  have heq := fun w' => equal_idI d.ref zeroI hr.1 zeroI_ok.1 hr.2 zeroI_ok.2 w'
  have HI := Lib.hid (show (Tryz.prog.info? 43).map (·.size) = some d.ref.length by rw [hr.1]; exact Tryz.sizeI)
  obtain ⟨k, hkd⟩ : ∃ k, d.kind = k := ⟨_, rfl⟩
  obtain ⟨kl, hkl⟩ : ∃ n, d.key.length = n := ⟨_, rfl⟩
  obtain ⟨vl, hvl⟩ : ∃ n, d.val.length = n := ⟨_, rfl⟩
  have HG := Shut.mk (show GoodD d ↔ 1 ≤ k ∧ k ≤ 5 ∧ 1 ≤ kl ∧ kl ≤ 16 ∧ vl ≤ 64 ∧ (k ≤ 3 → d.ref = zeroI) ∧ (k = 5 → d.ref ≠ zeroI ∧ d.val = []) by rw [← hkd, ← hkl, ← hvl]; rfl)
  rw [hkd] at c0
  clear hx hb c3
  by_cases h1 : k < 1
  · have hgd : decide (GoodD d) = false := decide_eq_false (fun h => by have := HG.out.1 h; omega)
    rw [hgd]
    go_enter Tryz.func31, Tryz.ntmps31
    go_wp2_with fail
    go_ret
    exact ⟨rfl, HB.out⟩
  by_cases h2 : 5 < k
  · have hgd : decide (GoodD d) = false := decide_eq_false (fun h => by have := HG.out.1 h; omega)
    rw [hgd]
    go_enter Tryz.func31, Tryz.ntmps31
    go_wp2_with fail
    go_ret
    exact ⟨rfl, HB.out⟩
  by_cases h3 : kl < 1
  · have hgd : decide (GoodD d) = false := decide_eq_false (fun h => by have := HG.out.1 h; omega)
    rw [hgd]
    go_enter Tryz.func31, Tryz.ntmps31
    go_wp2_with fail
    go_ret
    exact ⟨rfl, HB.out⟩
  by_cases h4 : 16 < kl
  · have hgd : decide (GoodD d) = false := decide_eq_false (fun h => by have := HG.out.1 h; omega)
    rw [hgd]
    go_enter Tryz.func31, Tryz.ntmps31
    go_wp2_with fail
    go_ret
    exact ⟨rfl, HB.out⟩
  by_cases h5 : 64 < vl
  · have hgd : decide (GoodD d) = false := decide_eq_false (fun h => by have := HG.out.1 h; omega)
    rw [hgd]
    go_enter Tryz.func31, Tryz.ntmps31
    go_wp2_with fail
    go_ret
    exact ⟨rfl, HB.out⟩
  obtain ⟨z, hz2⟩ : ∃ z, (d.ref == zeroI) = z := ⟨_, rfl⟩
  have HZ := Shut.mk hz2
  rw [hz2, zeroI_lit] at heq
  clear hz2
  have hzp : (z = true ↔ d.ref = zeroI) := by rw [← HZ.out]; simp
  by_cases h6 : k ≤ 3
  · have hgd : decide (GoodD d) = z := by
      cases z with
      | true => exact decide_eq_true (HG.out.2 ⟨by omega, by omega, by omega, by omega, by omega, fun _ => hzp.1 rfl, fun h => by omega⟩)
      | false => exact decide_eq_false (fun h => by have := hzp.2 ((HG.out.1 h).2.2.2.2.2.1 h6); cases this)
    rw [hgd]
    clear hgd hzp
    go_enter Tryz.func31, Tryz.ntmps31
    go_wp2_with (refine wpList_load_id rfl 43 _ rfl w.heap.size 3 d.ref _ rfl HC3.out Tryz.underlying43 rfl HI.out ?_)
    go_ret
    exact ⟨rfl, HB.out⟩
  by_cases h7 : k = 4
  · have hgd : decide (GoodD d) = true := decide_eq_true (HG.out.2 ⟨by omega, by omega, by omega, by omega, by omega, fun h => by omega, fun h => by omega⟩)
    rw [hgd]
    clear hgd hzp
    have h8 : (k == 4) = true := by simp [h7]
    go_enter Tryz.func31, Tryz.ntmps31
    go_wp2_with (refine wpList_load_id rfl 43 _ rfl w.heap.size 3 d.ref _ rfl HC3.out Tryz.underlying43 rfl HI.out ?_)
    go_ret
    exact ⟨rfl, HB.out⟩
  have h8 : (k == 4) = false := by simp [h7]
  have hgd : decide (GoodD d) = (!z && d.val == []) := by
    rw [val_nil_beq]
    cases z with
    | true => exact decide_eq_false (fun h => ((HG.out.1 h).2.2.2.2.2.2 (by omega)).1 (hzp.1 rfl))
    | false =>
      by_cases hv0 : d.val = []
      · rw [decide_eq_true hv0]
        exact decide_eq_true (HG.out.2 ⟨by omega, by omega, by omega, by omega, by omega, fun h => by omega, fun _ => ⟨fun e => (by have := hzp.2 e; cases this), hv0⟩⟩)
      · rw [decide_eq_false hv0]
        exact decide_eq_false (fun h => hv0 ((HG.out.1 h).2.2.2.2.2.2 (by omega)).2)
  rw [hgd]
  clear hgd hzp
  cases z with
  | true =>
    go_enter Tryz.func31, Tryz.ntmps31
    go_wp2_with (refine wpList_load_id rfl 43 _ rfl w.heap.size 3 d.ref _ rfl HC3.out Tryz.underlying43 rfl HI.out ?_)
    go_ret
    exact ⟨rfl, HB.out⟩
  | false =>
    go_enter Tryz.func31, Tryz.ntmps31
    go_wp2_with (refine wpList_load_id rfl 43 _ rfl w.heap.size 3 d.ref _ rfl HC3.out Tryz.underlying43 rfl HI.out ?_)
    go_ret
    exact ⟨rfl, HB.out⟩
end Go.Proofs.YtpfhlhcnmeodbaaGreatDoor
namespace Go.Proofs.YtpfhlhcnmeodbaaGreatDoor
open Go.RowKit
theorem Cells.lay {g : Nat} {t : TypeId} : ∀ (vs cs : List Value) (o : Nat) (w : World), Cells g t cs.toArray w → Cells g t (layV cs o vs).toArray (w.setCells g o vs)
  | [], _, _, _, h => h
  | v :: r, cs, o, w, h => by
    have h1 := h.set o v
    rw [List.setIfInBounds_toArray] at h1
    exact Cells.lay r (cs.set o v) (o + 1) _ h1
theorem wpList_load_mid_want {P : Program} {ops : Array Oper} {rest : List Oper} {op : Oper} {a : Act} {w : World} {Q : Exit → Act → World → Prop} (hw : Region.wanted op (yielded ops a.tmps) = true) (ty : TypeId) (x : Operand) (ho : op.op = .load ty x)
    (b o : Nat) (hx : a.eval x = .pointer (some ⟨b, o, none⟩)) (cs : List Value) (d : TypeDesc) (hc : w.rangeAt b o cs) (hu : P.underlying ty = some d) (hd : d.isRow = true) (hi : (P.info? ty).map (·.size) = some cs.length)
    (h : wpList P ops Q rest (a.put op.dst (.agg cs.toArray)) w) : wpList P ops Q (op :: rest) a w :=
  BigFrame.wpList_want hw fun _ hK => wp_load_mid ty x ho b o hx cs d hc hu hd hi (hK _ _ h)
end Go.Proofs.YtpfhlhcnmeodbaaGreatDoor
namespace Go.Proofs.YtpfhlhcnmeodbaaGreatDoor
open Go.RowKit Go.BigFrame
theorem nil_beq_dec (v : List UInt8) : (v == []) = decide (v = []) := by cases v <;> simp
theorem noD_iff (d : DraftN) : d = noD ↔ d.kind = 0 ∧ d.key = [] ∧ d.val = [] ∧ d.ref = zeroI := by
  obtain ⟨a, b, c, r⟩ := d
  simp [noD]
set_option maxHeartbeats 4000000 in
set_option maxRecDepth 100000 in
theorem ref_good15 (e : EntN) (he : e.Len) (w : World) :
    Calls Tryz.prog 11 #[.agg (entV e)] w fun r w' => r = .returned (.bool (decide (GoodE e))) ∧ Below w.heap.size w w' := by
  have hx : Cells w.heap.size 54 (entV e) (w.alloc (.cells (entV e) 54)) := heap_alloc_new w _
  have hb : Below w.heap.size w (w.alloc (.cells (entV e) 54)) := (Below.refl _ _).alloc (Nat.le_refl _) _
  have HX := Lib.hid hx
  have HB := Lib.hid hb
  have HE := Lib.hid he
  have HGD := Lib.hid (fun w' => ref_goodDraft e.d he.ok.ref he.key he.val w')
  clear hx hb he
  obtain ⟨out, hout⟩ : ∃ b, decide (OutE e) = b := ⟨_, rfl⟩
  obtain ⟨non, hnon⟩ : ∃ b, decide (e.d = noD) = b := ⟨_, rfl⟩
  obtain ⟨bare, hbare⟩ : ∃ b, decide (BareE e) = b := ⟨_, rfl⟩
  obtain ⟨gd, hgd⟩ : ∃ b, decide (GoodD e.d) = b := ⟨_, rfl⟩
  have HO := Shut.mk hout
  have HN := Shut.mk hnon
  have HR := Shut.mk hbare
  have HG := Shut.mk hgd
  rw [hgd] at HGD
  clear hout hnon hbare hgd
  go_enter Tryz.func11, Tryz.ntmps11
  go_upto_region 1 with (fail)
  obtain ⟨w1, hw1⟩ : ∃ x, x = w.alloc (.cells (entV e) 54) := ⟨_, rfl⟩
  rw [← hw1] at HX HB ⊢
  clear hw1
  obtain ⟨c0, cd, cf, cq, cp, cm, cy, cs⟩ := ent_cells HE.out.ok HX.out
  obtain ⟨d0, d1, d2, d3⟩ := draft_mid cd
  have HCD := Lib.hid cd
  have HCP := Lib.hid cp
  have HD3 := Lib.hid d3
  have HSI := Lib.hid (show (Tryz.prog.info? 43).map (·.size) = some (nums .u8 e.d.ref).length by rw [nums_len, HE.out.ok.ref.1]; exact Tryz.sizeI)
  have HSP := Lib.hid (show (Tryz.prog.info? 43).map (·.size) = some (nums .u8 e.prev).length by rw [nums_len, HE.out.ok.prev.1]; exact Tryz.sizeI)
  have HSD := Lib.hid (show (Tryz.prog.info? 52).map (·.size) = some (draftL e.d).length by rw [draftL_len HE.out.ok.ref.1]; exact Tryz.sizeD)
  have heq := fun w' => equal_idI e.d.ref zeroI HE.out.ok.ref.1 zeroI_ok.1 HE.out.ok.ref.2 zeroI_ok.2 w'
  have hpq := fun w' => equal_idI e.prev zeroI HE.out.ok.prev.1 zeroI_ok.1 HE.out.ok.prev.2 zeroI_ok.2 w'
  rw [zeroI_lit] at heq hpq
  have HEQ := Lib.hid heq
  have HPQ := Lib.hid hpq
  clear cd cp d3 heq hpq
  obtain ⟨k, hk⟩ : ∃ x, e.kind = x := ⟨_, rfl⟩
  obtain ⟨dk, hdk⟩ : ∃ x, e.d.kind = x := ⟨_, rfl⟩
  obtain ⟨f, hf⟩ : ∃ x, e.src = x := ⟨_, rfl⟩
  obtain ⟨q, hq⟩ : ∃ x, e.seq = x := ⟨_, rfl⟩
  obtain ⟨m, hm⟩ : ∃ x, e.mask = x := ⟨_, rfl⟩
  obtain ⟨yl, hyl⟩ : ∃ n, e.pay.length = n := ⟨_, rfl⟩
  obtain ⟨sl, hsl⟩ : ∃ n, e.sig.length = n := ⟨_, rfl⟩
  have HOE := Shut.mk (show OutE e ↔ 1 ≤ m ∧ m ≤ 31 ∧ yl ≤ 2048 by rw [OutE, hm, hyl])
  have HNE := Shut.mk (show e.d = noD ↔ dk = 0 ∧ e.d.key = [] ∧ e.d.val = [] ∧ e.d.ref = zeroI by
    rw [← hdk]
    exact noD_iff e.d)
  have HBE := Shut.mk (show BareE e ↔ f = 0 ∧ q = 0 ∧ e.prev = zeroI ∧ e.sig = [] by rw [BareE, hf, hq])
  have HGE := Shut.mk (show GoodE e ↔ (k = 1 ∧ gd = true ∧ bare = true ∧ m = 0 ∧ e.pay = []) ∨ (k = 2 ∧ out = true ∧ non = true ∧ 0 ≤ f ∧ f ≤ 4 ∧ 1 ≤ q ∧ sl ≤ 1024) ∨ (k = 3 ∧ out = true ∧ non = true ∧ bare = true) by
    rw [GoodE, hk, hm, hf, hq, hsl, ← HO.out, ← HN.out, ← HR.out, ← HG.out]
    simp only [decide_eq_true_eq])
  rw [hk] at c0
  rw [hdk] at d0
  rw [hf] at cf
  rw [hq] at cq
  rw [hm] at cm
  clear hk hdk hf hq hm
  go_cut [3] from 6 to 20 (fun s wx => s = .bool out ∧ wx = w1)
  case first =>
    by_cases h1 : 1 ≤ m
    · have g1 : decide (1 ≤ m) = true := decide_eq_true h1
      by_cases h2 : m ≤ 31
      · have g2 : decide (m ≤ 31) = true := decide_eq_true h2
        by_cases h3 : yl ≤ 2048
        · have g3 : decide ((yl : Int) ≤ 2048) = true := decide_eq_true (by omega)
          go_wp2_with fail
          go_meet
          case rel => exact ⟨by rw [← HO.out, decide_eq_true (HOE.out.2 ⟨h1, h2, h3⟩)], rfl⟩
        · have g3 : decide ((yl : Int) ≤ 2048) = false := decide_eq_false (by omega)
          go_wp2_with fail
          go_meet
          case rel => exact ⟨by rw [← HO.out, decide_eq_false (fun h => by have := (HOE.out.1 h).2.2; omega)], rfl⟩
      · have g2 : decide (m ≤ 31) = false := decide_eq_false h2
        go_wp2_with fail
        go_meet
        case rel => exact ⟨by rw [← HO.out, decide_eq_false (fun h => by have := (HOE.out.1 h).2.1; omega)], rfl⟩
    · have g1 : decide (1 ≤ m) = false := decide_eq_false h1
      go_wp2_with fail
      go_meet
      case rel => exact ⟨by rw [← HO.out, decide_eq_false (fun h => by have := (HOE.out.1 h).1; omega)], rfl⟩
  case rest =>
  obtain ⟨rfl, hwc⟩ := hcut
  rw [hwc]
  clear hwc
  clear HOE
  obtain ⟨kb, hkb⟩ : ∃ b, (e.d.key == []) = b := ⟨_, rfl⟩
  obtain ⟨vb, hvb⟩ : ∃ b, (e.d.val == []) = b := ⟨_, rfl⟩
  obtain ⟨sb, hsb⟩ : ∃ b, (e.sig == []) = b := ⟨_, rfl⟩
  obtain ⟨yb, hyb⟩ : ∃ b, (e.pay == []) = b := ⟨_, rfl⟩
  obtain ⟨rb, hrb⟩ : ∃ b, (e.d.ref == zeroI) = b := ⟨_, rfl⟩
  obtain ⟨pb, hpb⟩ : ∃ b, (e.prev == zeroI) = b := ⟨_, rfl⟩
  have HNB := Shut.mk (show non = (decide (dk = 0) && kb && vb && rb) by
    rw [← HN.out, ← hkb, ← hvb, ← hrb, nil_beq_dec, nil_beq_dec, Bool.eq_iff_iff]
    simp only [decide_eq_true_eq, Bool.and_eq_true, beq_iff_eq]
    rw [HNE.out]
    exact ⟨fun ⟨a, b, c, d⟩ => ⟨⟨⟨a, b⟩, c⟩, d⟩, fun ⟨⟨⟨a, b⟩, c⟩, d⟩ => ⟨a, b, c, d⟩⟩)
  have HBB := Shut.mk (show bare = (decide (f = 0) && decide (q = 0) && pb && sb) by
    rw [← HR.out, ← hpb, ← hsb, nil_beq_dec, Bool.eq_iff_iff]
    simp only [decide_eq_true_eq, Bool.and_eq_true, beq_iff_eq]
    rw [HBE.out]
    exact ⟨fun ⟨a, b, c, d⟩ => ⟨⟨⟨a, b⟩, c⟩, d⟩, fun ⟨⟨⟨a, b⟩, c⟩, d⟩ => ⟨a, b, c, d⟩⟩)
  have HYB := Shut.mk hyb
  rw [hrb] at HEQ
  rw [hpb] at HPQ
  clear HNE HBE hrb hpb
  go_upto_region 2 with (fail)
  go_cut [4] from 20 to 43 (fun s wx => s = .bool non ∧ wx = w1)
  case first =>
    have heq := HEQ.out
    by_cases h1 : dk = 0
    · have g1 : (dk == 0) = true := by simp [h1]
      rw [decide_eq_true h1, Bool.true_and] at HNB
      cases kb with
      | false =>
        go_wp2_with fail
        go_meet
        case rel => exact ⟨by rw [HNB.out]; rfl, rfl⟩
      | true =>
        cases vb with
        | false =>
          go_wp2_with fail
          go_meet
          case rel => exact ⟨by rw [HNB.out]; rfl, rfl⟩
        | true =>
          go_wp2_with (refine wpList_load_mid_want (by rfl) 43 _ rfl w.heap.size 4 rfl _ _ HD3.out Tryz.underlying43 rfl HSI.out ?_)
          go_meet
          case rel => exact ⟨by rw [HNB.out]; rfl, rfl⟩
    · have g1 : (dk == 0) = false := by simp [h1]
      rw [decide_eq_false h1] at HNB
      go_wp2_with fail
      go_meet
      case rel => exact ⟨by rw [HNB.out]; rfl, rfl⟩
  case rest =>
  obtain ⟨rfl, hwc⟩ := hcut
  rw [hwc]
  clear hwc HNB HEQ HD3 HSI
  go_upto_region 3 with (fail)
  go_cut [5] from 43 to 62 (fun s wx => s = .bool bare ∧ wx = w1)
  case first =>
    have heq := HPQ.out
    by_cases h1 : f = 0
    · have g1 : (f == 0) = true := by simp [h1]
      rw [decide_eq_true h1, Bool.true_and] at HBB
      by_cases h2 : q = 0
      · have g2 : (q == 0) = true := by simp [h2]
        rw [decide_eq_true h2, Bool.true_and] at HBB
        cases pb with
        | false =>
          go_wp2_with (refine wpList_load_mid_want (by rfl) 43 _ rfl w.heap.size 38 rfl _ _ HCP.out Tryz.underlying43 rfl HSP.out ?_)
          go_meet
          case rel => exact ⟨by rw [HBB.out]; rfl, rfl⟩
        | true =>
          go_wp2_with (refine wpList_load_mid_want (by rfl) 43 _ rfl w.heap.size 38 rfl _ _ HCP.out Tryz.underlying43 rfl HSP.out ?_)
          go_meet
          case rel => exact ⟨by rw [HBB.out]; rfl, rfl⟩
      · have g2 : (q == 0) = false := by simp [h2]
        rw [decide_eq_false h2] at HBB
        go_wp2_with fail
        go_meet
        case rel => exact ⟨by rw [HBB.out]; rfl, rfl⟩
    · have g1 : (f == 0) = false := by simp [h1]
      rw [decide_eq_false h1] at HBB
      go_wp2_with fail
      go_meet
      case rel => exact ⟨by rw [HBB.out]; rfl, rfl⟩
  case rest =>
  obtain ⟨rfl, hwc⟩ := hcut
  rw [hwc]
  clear hwc HBB HPQ HCP HSP
  by_cases h1 : k = 1
  · have g1 : (k == 1) = true := by simp [h1]
    have HZ := Shut.mk (show decide (GoodE e) = (gd && bare && decide (m = 0) && yb) by
      rw [← HYB.out, nil_beq_dec, Bool.eq_iff_iff]
      simp only [decide_eq_true_eq, Bool.and_eq_true]
      rw [HGE.out]
      constructor
      · rintro (⟨_, a, b, c, d⟩ | ⟨h, _⟩ | ⟨h, _⟩)
        · exact ⟨⟨⟨a, b⟩, c⟩, d⟩
        · omega
        · omega
      · rintro ⟨⟨⟨a, b⟩, c⟩, d⟩
        exact .inl ⟨h1, a, b, c, d⟩)
    clear h1
    go_wp2_with (refine wpList_load_mid rfl 52 _ rfl w.heap.size 1 rfl _ _ HCD.out Tryz.underlying52 rfl HSD.out ?_)
    refine (HGD.out w1).mono ?_
    rintro r w2 ⟨rfl, hb⟩
    have HB2 := Lib.hid (HB.out.trans (hb.mono HB.out.size))
    have hg := HX.out.lt
    have cm2 := (hb.cell (p := ⟨w.heap.size, 70, none⟩) hg).trans cm
    have cy2 := (hb.cell (p := ⟨w.heap.size, 71, none⟩) hg).trans cy
    clear hb HB hg cm cy
    cases gd with
    | false =>
      go_wp2_with fail
      go_ret
      exact ⟨by rw [HZ.out]; rfl, HB2.out⟩
    | true =>
      cases bare with
      | false =>
        go_wp2_with fail
        go_ret
        exact ⟨by rw [HZ.out]; rfl, HB2.out⟩
      | true =>
        by_cases h2 : m = 0
        · have g2 : (m == 0) = true := by simp [h2]
          rw [decide_eq_true h2] at HZ
          go_wp2_with fail
          go_ret
          exact ⟨by rw [HZ.out]; rfl, HB2.out⟩
        · have g2 : (m == 0) = false := by simp [h2]
          rw [decide_eq_false h2] at HZ
          go_wp2_with fail
          go_ret
          exact ⟨by rw [HZ.out]; rfl, HB2.out⟩
  have g1 : (k == 1) = false := by simp [h1]
  by_cases h2 : k = 2
  · have g2 : (k == 2) = true := by simp [h2]
    have HZ := Shut.mk (show decide (GoodE e) = (out && non && decide (0 ≤ f) && decide (f ≤ 4) && decide (1 ≤ q) && decide ((sl : Int) ≤ 1024)) by
      rw [Bool.eq_iff_iff]
      simp only [decide_eq_true_eq, Bool.and_eq_true]
      rw [HGE.out]
      constructor
      · rintro (⟨h, _⟩ | ⟨_, a, b, c, d, x, y⟩ | ⟨h, _⟩)
        · omega
        · exact ⟨⟨⟨⟨⟨a, b⟩, c⟩, d⟩, x⟩, by omega⟩
        · omega
      · rintro ⟨⟨⟨⟨⟨a, b⟩, c⟩, d⟩, x⟩, y⟩
        exact .inr (.inl ⟨h2, a, b, c, d, x, by omega⟩))
    clear h1 h2
    obtain ⟨b1, hb1⟩ : ∃ b, decide (0 ≤ f) = b := ⟨_, rfl⟩
    obtain ⟨b2, hb2⟩ : ∃ b, decide (f ≤ 4) = b := ⟨_, rfl⟩
    obtain ⟨b3, hb3⟩ : ∃ b, decide (1 ≤ q) = b := ⟨_, rfl⟩
    obtain ⟨b4, hb4⟩ : ∃ b, decide ((sl : Int) ≤ 1024) = b := ⟨_, rfl⟩
    rw [hb1, hb2, hb3, hb4] at HZ
    cases out with
    | false =>
      go_wp2_with fail
      go_ret
      exact ⟨by rw [HZ.out]; rfl, HB.out⟩
    | true =>
    cases non with
    | false =>
      go_wp2_with fail
      go_ret
      exact ⟨by rw [HZ.out]; rfl, HB.out⟩
    | true =>
    cases b1 with
    | false =>
      go_wp2_with fail
      go_ret
      exact ⟨by rw [HZ.out]; rfl, HB.out⟩
    | true =>
    cases b2 with
    | false =>
      go_wp2_with fail
      go_ret
      exact ⟨by rw [HZ.out]; rfl, HB.out⟩
    | true =>
    cases b3 with
    | false =>
      go_wp2_with fail
      go_ret
      exact ⟨by rw [HZ.out]; rfl, HB.out⟩
    | true =>
    cases b4 with
    | false =>
      go_wp2_with fail
      go_ret
      exact ⟨by rw [HZ.out]; rfl, HB.out⟩
    | true =>
      go_wp2_with fail
      go_ret
      exact ⟨by rw [HZ.out]; rfl, HB.out⟩
  have g2 : (k == 2) = false := by simp [h2]
  have HZ := Shut.mk (show decide (GoodE e) = (decide (k = 3) && out && non && bare) by
    rw [Bool.eq_iff_iff]
    simp only [decide_eq_true_eq, Bool.and_eq_true]
    rw [HGE.out]
    constructor
    · rintro (⟨h, _⟩ | ⟨h, _⟩ | ⟨a, b, c, d⟩)
      · omega
      · omega
      · exact ⟨⟨⟨a, b⟩, c⟩, d⟩
    · rintro ⟨⟨⟨a, b⟩, c⟩, d⟩
      exact .inr (.inr ⟨a, b, c, d⟩))
  by_cases h3 : k = 3
  · have g3 : (k == 3) = true := by simp [h3]
    rw [decide_eq_true h3] at HZ
    clear h1 h2 h3
    cases out with
    | false =>
      go_wp2_with fail
      go_ret
      exact ⟨by rw [HZ.out]; rfl, HB.out⟩
    | true =>
    cases non with
    | false =>
      go_wp2_with fail
      go_ret
      exact ⟨by rw [HZ.out]; rfl, HB.out⟩
    | true =>
      go_wp2_with fail
      go_ret
      exact ⟨by rw [HZ.out]; rfl, HB.out⟩
  · have g3 : (k == 3) = false := by simp [h3]
    rw [decide_eq_false h3] at HZ
    clear h1 h2 h3
    go_wp2_with fail
    go_ret
    exact ⟨by rw [HZ.out]; rfl, HB.out⟩
end Go.Proofs.YtpfhlhcnmeodbaaGreatDoor
namespace Go.Proofs.YtpfhlhcnmeodbaaGreatDoor
structure DraftN.Fit (d : DraftN) : Prop where
  ref : IdOk d.ref
  low : -9223372036854775808 ≤ d.kind
  high : d.kind ≤ 9223372036854775807
  key : d.key.length ≤ 512
  val : d.val.length ≤ 512
theorem GoodD.fit {d : DraftN} (h : GoodD d) (hr : IdOk d.ref) : d.Fit := by
  obtain ⟨h1, h2, _, h4, h5, _⟩ := h
  exact ⟨hr, by omega, by omega, by omega, by omega⟩
end Go.Proofs.YtpfhlhcnmeodbaaGreatDoor
namespace Go.Proofs.YtpfhlhcnmeodbaaGreatDoor
open Go.RowKit Go.BigFrame
def fitsK (d : DraftN) : Bool := if d.kind = 1 ∨ d.kind = 2 ∨ d.kind = 3 then (d.ref == zeroI) else if d.kind = 4 then true else if d.kind = 5 then !(d.ref == zeroI) && d.val == [] else false
theorem good_fits (d : DraftN) : GoodD d ↔ 1 ≤ d.key.length ∧ d.key.length ≤ 16 ∧ d.val.length ≤ 64 ∧ fitsK d = true := by
  unfold GoodD fitsK
  constructor
  · rintro ⟨h1, h2, h3, h4, h5, h6, h7⟩
    refine ⟨h3, h4, h5, ?_⟩
    split
    · rw [h6 (by omega)]; simp
    · split
      · rfl
      · split
        · obtain ⟨a, b⟩ := h7 (by omega)
          simp [a, b]
        · omega
  · rintro ⟨h3, h4, h5, h⟩
    split at h
    · exact ⟨by omega, by omega, h3, h4, h5, fun _ => by simpa using h, fun h => by omega⟩
    · split at h
      · exact ⟨by omega, by omega, h3, h4, h5, fun h => by omega, fun h => by omega⟩
      · split at h
        · simp at h
          exact ⟨by omega, by omega, h3, h4, h5, fun h => by omega, fun _ => h⟩
        · cases h
set_option maxHeartbeats 2000000 in
set_option maxRecDepth 100000 in
theorem dev_fitsKind (d : DraftN) (hr : IdOk d.ref) (w : World) :
    Calls Tryz.prog 87 #[.agg (draftV d)] w fun e w' => e = .returned (.bool (fitsK d)) ∧ Below w.heap.size w w' := by
  have hx : Cells w.heap.size 52 (draftV d) (w.alloc (.cells (draftV d) 52)) := heap_alloc_new w _
  have hb : Below w.heap.size w (w.alloc (.cells (draftV d) 52)) := (Below.refl _ _).alloc (Nat.le_refl _) _
  obtain ⟨c0, c1, c2, c3⟩ := draft_cells hx
  have HC3 := Lib.hid c3
  have HB := Lib.hid hb
  have heq := fun w' => equal_idI d.ref zeroI hr.1 zeroI_ok.1 hr.2 zeroI_ok.2 w'
  have HI := Lib.hid (show (Tryz.prog.info? 43).map (·.size) = some d.ref.length by rw [hr.1]; exact Tryz.sizeI)
  obtain ⟨k, hkd⟩ : ∃ k, d.kind = k := ⟨_, rfl⟩
  obtain ⟨z, hz2⟩ : ∃ z, (d.ref == zeroI) = z := ⟨_, rfl⟩
  have HG := Shut.mk (show fitsK d = if k = 1 ∨ k = 2 ∨ k = 3 then z else if k = 4 then true else if k = 5 then !z && d.val == [] else false by rw [fitsK, hkd, hz2])
  rw [hkd] at c0
  rw [hz2, zeroI_lit] at heq
  clear hx hb c3 hz2
  by_cases h1 : k = 1
  · subst h1
    have hgd : fitsK d = z := HG.out
    rw [hgd]
    clear hgd
    go_enter Tryz.func87, Tryz.ntmps87
    cases z <;> go_wp2_with (refine wpList_load_id rfl 43 _ rfl w.heap.size 3 d.ref _ rfl HC3.out Tryz.underlying43 rfl HI.out ?_)
    all_goals
      go_ret
      exact ⟨rfl, HB.out⟩
  by_cases h2 : k = 2
  · subst h2
    have hgd : fitsK d = z := HG.out
    rw [hgd]
    clear hgd
    go_enter Tryz.func87, Tryz.ntmps87
    cases z <;> go_wp2_with (refine wpList_load_id rfl 43 _ rfl w.heap.size 3 d.ref _ rfl HC3.out Tryz.underlying43 rfl HI.out ?_)
    all_goals
      go_ret
      exact ⟨rfl, HB.out⟩
  by_cases h3 : k = 3
  · subst h3
    have hgd : fitsK d = z := HG.out
    rw [hgd]
    clear hgd
    go_enter Tryz.func87, Tryz.ntmps87
    cases z <;> go_wp2_with (refine wpList_load_id rfl 43 _ rfl w.heap.size 3 d.ref _ rfl HC3.out Tryz.underlying43 rfl HI.out ?_)
    all_goals
      go_ret
      exact ⟨rfl, HB.out⟩
  by_cases h4 : k = 4
  · subst h4
    have hgd : fitsK d = true := HG.out
    rw [hgd]
    clear hgd
    go_enter Tryz.func87, Tryz.ntmps87
    cases z <;> go_wp2_with (refine wpList_load_id rfl 43 _ rfl w.heap.size 3 d.ref _ rfl HC3.out Tryz.underlying43 rfl HI.out ?_)
    all_goals
      go_ret
      exact ⟨rfl, HB.out⟩
  by_cases h5 : k = 5
  · subst h5
    have hgd : fitsK d = (!z && d.val == []) := HG.out
    rw [hgd]
    clear hgd
    go_enter Tryz.func87, Tryz.ntmps87
    cases z <;> go_wp2_with (refine wpList_load_id rfl 43 _ rfl w.heap.size 3 d.ref _ rfl HC3.out Tryz.underlying43 rfl HI.out ?_)
    all_goals
      go_ret
      exact ⟨rfl, HB.out⟩
  have t1 : (k == 1) = false := by simp [h1]
  have t2 : (k == 2) = false := by simp [h2]
  have t3 : (k == 3) = false := by simp [h3]
  have t4 : (k == 4) = false := by simp [h4]
  have t5 : (k == 5) = false := by simp [h5]
  have hgd : fitsK d = false := by rw [HG.out, if_neg (by omega), if_neg h4, if_neg h5]
  rw [hgd]
  clear hgd
  go_enter Tryz.func87, Tryz.ntmps87
  cases z <;> go_wp2_with (refine wpList_load_id rfl 43 _ rfl w.heap.size 3 d.ref _ rfl HC3.out Tryz.underlying43 rfl HI.out ?_)
  all_goals
    go_ret
    exact ⟨rfl, HB.out⟩
set_option maxHeartbeats 2000000 in
set_option maxRecDepth 100000 in
theorem dev_goodDraft (d : DraftN) (hr : IdOk d.ref) (hk : d.key.length ≤ 140737488351232) (hv : d.val.length ≤ 140737488351232) (w : World) :
    Calls Tryz.prog 56 #[.agg (draftV d)] w fun e w' => e = .returned (.bool (decide (GoodD d))) ∧ Below w.heap.size w w' := by
  have hx : Cells w.heap.size 52 (draftV d) (w.alloc (.cells (draftV d) 52)) := heap_alloc_new w _
  have hb : Below w.heap.size w (w.alloc (.cells (draftV d) 52)) := (Below.refl _ _).alloc (Nat.le_refl _) _
  obtain ⟨c0, c1, c2, c3⟩ := draft_cells hx
  have HX := Lib.hid hx
  have HB := Lib.hid hb
  have HSD := Lib.hid (show (Tryz.prog.info? 52).map (·.size) = some (draftV d).size by rw [draftV_size hr.1]; exact Tryz.sizeD)
  have HF := Lib.hid (fun w' => dev_fitsKind d hr w')
  obtain ⟨f, hf⟩ : ∃ f, fitsK d = f := ⟨_, rfl⟩
  obtain ⟨kl, hkl⟩ : ∃ n, d.key.length = n := ⟨_, rfl⟩
  obtain ⟨vl, hvl⟩ : ∃ n, d.val.length = n := ⟨_, rfl⟩
  have hke : (d.key == []) = decide (kl = 0) := by rw [val_nil_beq, ← hkl]; simp [List.length_eq_zero_iff]
  have HG := Shut.mk (show decide (GoodD d) = decide (1 ≤ kl ∧ kl ≤ 16 ∧ vl ≤ 64 ∧ f = true) from decide_eq_decide.2 (by rw [good_fits, hkl, hvl, hf]))
  rw [hf] at HF
  clear hx hb c0 c3 hf
  by_cases h1 : kl = 0
  · have e1 : (d.key == []) = true := by rw [hke]; exact decide_eq_true h1
    have HR := Shut.mk (HG.out.trans (decide_eq_false (by omega)))
    clear hke
    go_enter Tryz.func56, Tryz.ntmps56
    go_wp2_with fail
    go_ret
    exact ⟨by rw [HR.out]; rfl, HB.out⟩
  have e1 : (d.key == []) = false := by rw [hke]; exact decide_eq_false h1
  clear hke
  by_cases h2 : 16 < kl
  · have HR := Shut.mk (HG.out.trans (decide_eq_false (by omega)))
    have h2b : decide ((kl : Int) ≤ 16) = false := decide_eq_false (by omega)
    go_enter Tryz.func56, Tryz.ntmps56
    go_wp2_with fail
    go_ret
    exact ⟨by rw [HR.out]; rfl, HB.out⟩
  have h2b : decide ((kl : Int) ≤ 16) = true := decide_eq_true (by omega)
  by_cases h3 : 64 < vl
  · have HR := Shut.mk (HG.out.trans (decide_eq_false (by omega)))
    have h3b : decide ((vl : Int) ≤ 64) = false := decide_eq_false (by omega)
    go_enter Tryz.func56, Tryz.ntmps56
    go_wp2_with fail
    go_ret
    exact ⟨by rw [HR.out]; rfl, HB.out⟩
  have h3b : decide ((vl : Int) ≤ 64) = true := decide_eq_true (by omega)
  have HR := Shut.mk (show decide (GoodD d) = f by rw [HG.out]; cases f with | true => exact decide_eq_true ⟨by omega, by omega, by omega, rfl⟩ | false => exact decide_eq_false (fun h => by cases h.2.2.2))
  go_enter Tryz.func56, Tryz.ntmps56
  go_wp2_with (refine wpList_load_cells_want (by rfl) 52 _ rfl w.heap.size (draftV d) 52 _ rfl HX.out Tryz.underlying52 rfl HSD.out ?_)
  refine (HF.out _).mono ?_
  rintro e w1 ⟨rfl, hb⟩
  have HB1 := Lib.hid (HB.out.trans (hb.mono HB.out.size))
  clear hb
  go_wp2_with fail
  go_ret
  exact ⟨by rw [HR.out]; rfl, HB1.out⟩
end Go.Proofs.YtpfhlhcnmeodbaaGreatDoor
namespace Go.Proofs.YtpfhlhcnmeodbaaGreatDoor
open Go.RowKit Go.BigFrame
theorem at_four9 (w : World) (p q r s : List UInt8) : StrsAt (some ⟨w.heap.size, 0, none⟩) [p, q, r, s] (w.alloc (.cells #[.string ⟨p.toArray⟩, .string ⟨q.toArray⟩, .string ⟨r.toArray⟩, .string ⟨s.toArray⟩] 9)) := by
  refine strsAt_own (B := w.heap.size) (c := 4) ?_
  exact World.ownsRow_lit (base := w.heap.size) (e := 9) (size := 1) w #[.string ⟨p.toArray⟩, .string ⟨q.toArray⟩, .string ⟨r.toArray⟩, .string ⟨s.toArray⟩] 4 (Nat.le_refl _) (by unfold maxLen; omega) rfl
theorem conv_mid {P : Program} {src dst e : TypeId} (hs : P.underlying src = some (.slice e)) (he : P.underlying e = some (.int .u8)) (hd : P.underlying dst = some .string) {g o c n : Nat} {l : List Nat} {w : World} (hn : n = l.length) (hl : ∀ x ∈ l, x < 256) (h : w.rangeAt g o (nums .u8 l)) :
    (convert src dst (.slice (some ⟨g, o, none⟩) n c)).run P w = .ok (.string ⟨(txt l).toArray⟩) w := by
  subst hn
  have h2 := run_convert_bytes_back (P := P) w src dst e ⟨g, o, none⟩ c (txt l) hs he hd (fun j hj => by
    rw [txt_len] at hj
    rw [Addr.add_mid, h j _ (by rw [nums, List.getElem?_map, List.getElem?_eq_getElem hj]; rfl)]
    have h1 := hl _ (List.getElem_mem hj)
    simp only [txt, List.getElem_map]
    rw [show (UInt8.ofNat l[j]).toNat = l[j] by simp; omega])
  rw [txt_len] at h2
  exact h2
theorem draftB_le9 {d : DraftN} (h : d.Fit) : (draftB d).length ≤ 1200 := draftB_le (by have := h.high; omega) h.key h.val h.ref.1
set_option maxHeartbeats 4000000 in
set_option maxRecDepth 100000 in
theorem dev_draftText (d : DraftN) (hd : d.Fit) (w : World) :
    Calls Tryz.prog 103 #[.agg (draftV d)] w fun e w' => e = .returned (.string ⟨(draftB d).toArray⟩) ∧ Below w.heap.size w w' := by
  have hx : Cells w.heap.size 52 (draftV d) (w.alloc (.cells (draftV d) 52)) := heap_alloc_new w _
  have hb : Below w.heap.size w (w.alloc (.cells (draftV d) 52)) := (Below.refl _ _).alloc (Nat.le_refl _) _
  have HX := Lib.hid hx
  have HB := Lib.hid hb
  have HD := Lib.hid hd
  have HLEN := Lib.hid (draftB_le9 hd)
  clear hx hb hd
  go_enter Tryz.func103, Tryz.ntmps103
  go_upto_region 1 with (fail)
  obtain ⟨w1, hw1⟩ : ∃ x, x = w.alloc (.cells (draftV d) 52) := ⟨_, rfl⟩
  rw [← hw1] at HX HB ⊢
  clear hw1
  obtain ⟨c0, c1, c2, c3⟩ := draft_cells HX.out
  have hg := HX.out.lt
  obtain ⟨k, hk⟩ : ∃ k, d.kind = k := ⟨_, rfl⟩
  have HK := Shut.mk hk
  rw [hk] at c0
  have HC0 := Lib.hid (fun (w' : World) (q : Below w1.heap.size w1 w') => (q.cell (p := ⟨w.heap.size, 0, none⟩) hg).trans c0)
  have HC1 := Lib.hid (fun (w' : World) (q : Below w1.heap.size w1 w') => (q.cell (p := ⟨w.heap.size, 1, none⟩) hg).trans c1)
  have HC2 := Lib.hid (fun (w' : World) (q : Below w1.heap.size w1 w') => (q.cell (p := ⟨w.heap.size, 2, none⟩) hg).trans c2)
  have HC3 := Lib.hid (fun (w' : World) (q : Below w1.heap.size w1 w') => conv_mid (P := Tryz.prog) (src := 97) (dst := 9) (c := 32) Tryz.underlying97 Tryz.underlying5 Tryz.underlying9 HD.out.ref.1.symm HD.out.ref.2 (rangeAt_belowI c3 q hg))
  have HN := Lib.hid (fun w' => num_int k w' (by have := HD.out.low; rw [hk] at this; exact this) (by have := HD.out.high; rw [hk] at this; exact this))
  clear c0 c1 c2 c3 hg hk
  refine wp_region_class_tail (fun w' => Below w1.heap.size w1 w') 10 (by kernel_rfl) (by kernel_rfl) (Below.refl _ _).drew ?_
  simp only [List.take_succ_cons, List.take_zero, List.drop_succ_cons, List.drop_zero]
  repeat (first
    | (go_big_quiet_want; refine quiet_load_cell 3 _ rfl ⟨w.heap.size, 0, none⟩ _ rfl HC0.out Tryz.isAgg3 ?_; go_big_quiet_on; simp only [Act.put, List.setIfInBounds_toArray, List.set_cons_zero, List.set_cons_succ])
    | (go_big_quiet_want; refine quiet_load_cell 9 _ rfl ⟨w.heap.size, 1, none⟩ _ rfl HC1.out Tryz.isAgg9 ?_; go_big_quiet_on; simp only [Act.put, List.setIfInBounds_toArray, List.set_cons_zero, List.set_cons_succ])
    | (go_big_quiet_want; refine quiet_load_cell 9 _ rfl ⟨w.heap.size, 2, none⟩ _ rfl HC2.out Tryz.isAgg9 ?_; go_big_quiet_on; simp only [Act.put, List.setIfInBounds_toArray, List.set_cons_zero, List.set_cons_succ])
    | (go_big_quiet_want; refine quiet_conv 97 9 _ rfl (.slice (some ⟨w.heap.size, 3, none⟩) 32 32) _ rfl HC3.out ?_; go_big_quiet_on; simp only [Act.put, List.setIfInBounds_toArray, List.set_cons_zero, List.set_cons_succ])
    | go_big_quiet_step ((intro hs'; first
        | (go_at_call 50; exact (HN.out _).mono fun e w' h => ⟨h.1, hs'.trans (h.2.mono hs'.size)⟩)
        | rfl)))
  refine wpQuiet_nil ?_
  intro w2 hs2
  have HB2 := Lib.hid (HB.out.trans (hs2.mono HB.out.size))
  clear hs2 HX HB HC0 HC1 HC2 HC3 HN
  go_wp2_with fail
  refine (list_any (some ⟨w2.heap.size, 0, none⟩) 4 [numB k.toNat, d.key, d.val, txt d.ref] _ (at_four9 w2 _ _ _ _) (by simp) (by have := HLEN.out; rw [draftB, HK.out] at this; omega)).mono ?_
  rintro e w3 ⟨rfl, hb⟩
  have HB3 := Lib.hid (HB2.out.trans (((Below.refl _ w2).alloc (Nat.le_refl _) _).trans (hb.mono (by simp)) |>.mono HB2.out.size))
  clear hb HB2
  go_wp2_with fail
  go_ret
  exact ⟨by rw [draftB, HK.out]; rfl, HB3.out⟩
end Go.Proofs.YtpfhlhcnmeodbaaGreatDoor
namespace Go.Proofs.YtpfhlhcnmeodbaaGreatDoor
open Go.RowKit Go.BigFrame
theorem ref_num9 (n : Int) (w : World) (h2 : n ≤ 9223372036854775807) :
    Calls Tryz.prog 114 #[.int .i64 n] w fun e w' => e = .returned (.string ⟨(numB n.toNat).toArray⟩) ∧ Below w.heap.size w w' := by
  by_cases h0 : n < 0
  · have HN := Lib.hid (rnumref_any 0 w (by decide))
    have HE := Shut.mk (show n.toNat = 0 by omega)
    go_enter Tryz.func114, Tryz.ntmps114
    go_wp2_with fail
    refine HN.out.mono ?_
    rintro e w1 ⟨rfl, hb⟩
    have HB := Lib.hid hb
    clear hb
    go_wp2_with fail
    go_ret
    exact ⟨by rw [HE.out]; rfl, HB.out⟩
  · obtain ⟨m, rfl⟩ := Int.eq_ofNat_of_zero_le (show 0 ≤ n by omega)
    have HN := Lib.hid (rnumref_any m w (by omega))
    have hnl : ¬ (m : Int) < 0 := h0
    go_enter Tryz.func114, Tryz.ntmps114
    go_wp2_with fail
    refine HN.out.mono ?_
    rintro e w1 ⟨rfl, hb⟩
    have HB := Lib.hid hb
    clear hb
    go_wp2_with fail
    go_ret
    exact ⟨by rw [Int.toNat_natCast]; rfl, HB.out⟩
set_option maxHeartbeats 4000000 in
set_option maxRecDepth 100000 in
theorem ref_draftText (d : DraftN) (hd : d.Fit) (w : World) :
    Calls Tryz.prog 108 #[.agg (draftV d)] w fun e w' => e = .returned (.string ⟨(draftB d).toArray⟩) ∧ Below w.heap.size w w' := by
  have hx : Cells w.heap.size 52 (draftV d) (w.alloc (.cells (draftV d) 52)) := heap_alloc_new w _
  have hb : Below w.heap.size w (w.alloc (.cells (draftV d) 52)) := (Below.refl _ _).alloc (Nat.le_refl _) _
  have HX := Lib.hid hx
  have HB := Lib.hid hb
  have HD := Lib.hid hd
  have HLEN := Lib.hid (draftB_le9 hd)
  clear hx hb hd
  go_enter Tryz.func108, Tryz.ntmps108
  go_upto_region 1 with (fail)
  obtain ⟨w1, hw1⟩ : ∃ x, x = w.alloc (.cells (draftV d) 52) := ⟨_, rfl⟩
  rw [← hw1] at HX HB ⊢
  clear hw1
  obtain ⟨c0, c1, c2, c3⟩ := draft_cells HX.out
  have hg := HX.out.lt
  obtain ⟨k, hk⟩ : ∃ k, d.kind = k := ⟨_, rfl⟩
  have HK := Shut.mk hk
  rw [hk] at c0
  have HC0 := Lib.hid (fun (w' : World) (q : Below w1.heap.size w1 w') => (q.cell (p := ⟨w.heap.size, 0, none⟩) hg).trans c0)
  have HC1 := Lib.hid (fun (w' : World) (q : Below w1.heap.size w1 w') => (q.cell (p := ⟨w.heap.size, 1, none⟩) hg).trans c1)
  have HC2 := Lib.hid (fun (w' : World) (q : Below w1.heap.size w1 w') => (q.cell (p := ⟨w.heap.size, 2, none⟩) hg).trans c2)
  have HC3 := Lib.hid (fun (w' : World) (q : Below w1.heap.size w1 w') => conv_mid (P := Tryz.prog) (src := 97) (dst := 9) (c := 32) Tryz.underlying97 Tryz.underlying5 Tryz.underlying9 HD.out.ref.1.symm HD.out.ref.2 (rangeAt_belowI c3 q hg))
  have HN := Lib.hid (fun w' => ref_num9 k w' (by have := HD.out.high; rw [hk] at this; exact this))
  clear c0 c1 c2 c3 hg hk
  refine wp_region_class_tail (fun w' => Below w1.heap.size w1 w') 10 (by kernel_rfl) (by kernel_rfl) (Below.refl _ _).drew ?_
  simp only [List.take_succ_cons, List.take_zero, List.drop_succ_cons, List.drop_zero]
  repeat (first
    | (go_big_quiet_want; refine quiet_load_cell 3 _ rfl ⟨w.heap.size, 0, none⟩ _ rfl HC0.out Tryz.isAgg3 ?_; go_big_quiet_on; simp only [Act.put, List.setIfInBounds_toArray, List.set_cons_zero, List.set_cons_succ])
    | (go_big_quiet_want; refine quiet_load_cell 9 _ rfl ⟨w.heap.size, 1, none⟩ _ rfl HC1.out Tryz.isAgg9 ?_; go_big_quiet_on; simp only [Act.put, List.setIfInBounds_toArray, List.set_cons_zero, List.set_cons_succ])
    | (go_big_quiet_want; refine quiet_load_cell 9 _ rfl ⟨w.heap.size, 2, none⟩ _ rfl HC2.out Tryz.isAgg9 ?_; go_big_quiet_on; simp only [Act.put, List.setIfInBounds_toArray, List.set_cons_zero, List.set_cons_succ])
    | (go_big_quiet_want; refine quiet_conv 97 9 _ rfl (.slice (some ⟨w.heap.size, 3, none⟩) 32 32) _ rfl HC3.out ?_; go_big_quiet_on; simp only [Act.put, List.setIfInBounds_toArray, List.set_cons_zero, List.set_cons_succ])
    | go_big_quiet_step ((intro hs'; first
        | (go_at_call 114; exact (HN.out _).mono fun e w' h => ⟨h.1, hs'.trans (h.2.mono hs'.size)⟩)
        | rfl)))
  refine wpQuiet_nil ?_
  intro w2 hs2
  have HB2 := Lib.hid (HB.out.trans (hs2.mono HB.out.size))
  clear hs2 HX HB HC0 HC1 HC2 HC3 HN
  go_wp2_with fail
  refine (rlistref_any (some ⟨w2.heap.size, 0, none⟩) 4 [numB k.toNat, d.key, d.val, txt d.ref] _ (at_four9 w2 _ _ _ _) (by simp) (by have := HLEN.out; rw [draftB, HK.out] at this; omega)).mono ?_
  rintro e w3 ⟨rfl, hb⟩
  have HB3 := Lib.hid (HB2.out.trans (((Below.refl _ w2).alloc (Nat.le_refl _) _).trans (hb.mono (by simp)) |>.mono HB2.out.size))
  clear hb HB2
  go_wp2_with fail
  go_ret
  exact ⟨by rw [draftB, HK.out]; rfl, HB3.out⟩
end Go.Proofs.YtpfhlhcnmeodbaaGreatDoor
namespace Go.Proofs.YtpfhlhcnmeodbaaGreatDoor
open Go.RowKit Go.BigFrame
theorem strsP_uni (L : List (List UInt8)) : ∀ u ∈ strs L, u.oneCell' = true := fun u hu => by
  obtain ⟨s, _, rfl⟩ := List.mem_map.1 hu
  rfl
theorem Tryz.infoStrP : (Tryz.prog.info? 9).map (fun i => (i.zero, i.size, i.bytes)) = some (some (.string ⟨#[]⟩), 1, 16) := by kernel_rfl
theorem strsP_src {ad : Addr} {L : List (List UInt8)} {w : World} (h : StrsAt (some ad) L w) : ∀ j u, (strs L)[j]? = some u → w.cell? (ad.add j) = some u := by
  intro j u hj
  rcases h with rfl | ⟨b, o, h1, h2, h3⟩
  · cases hj
  · cases h1
    have hlt := (List.getElem?_eq_some_iff.1 hj).1
    rw [strs_length] at hlt
    rw [Addr.add_lit, h3 j hlt, ← hj, strs, List.getElem?_map, List.getElem?_eq_getElem hlt]
    rfl
section
variable {w : World} {ops : Array Oper} {rest : List Oper} {o : Oper} {a : Act} {Q : Exit → Act → World → Prop}
theorem wpList_push_strs (hgd : o.guard = none) (s x : Operand) (ho : o.op = .call { callee := .builtin .append, args := #[s, x], argTypes := #[115, 115] })
    (B : Nat) (v : Value) (L M : List (List UInt8)) (ao : Option Addr) (n c : Nat) (hn : n = M.length) (hs : a.eval s = v) (hown : OwnS B v L w) (hx : a.eval x = .slice ao n c) (hsrc : StrsAt ao M w) (hnil : ao = none → c = 0)
    (h63 : L.length + M.length ≤ 1000000) (hB : B ≤ w.heap.size)
    (h : ∀ v' w', Hid (OwnS B v' (L ++ M) w') → Hid (Below B w w') → Hid (w.grownBy w' v.ownBlock) → wpList Tryz.prog ops Q rest (a.put o.dst v') w') : wpList Tryz.prog ops Q (o :: rest) a w := by
  obtain ⟨i, hi, hz0, hz1, hz2⟩ := info_parts Tryz.infoStrP
  have hap : strs (L ++ M) = strs L ++ strs M := by simp [strs]
  cases ao with
  | none =>
    obtain rfl := hnil rfl
    have hm : M = [] := by
      rcases hsrc with h | ⟨b, o', h, _⟩
      · exact h
      · cases h
    subst hm
    subst hn
    refine wpList_append_own_none hgd s x _ ho B 9 i 1 Tryz.underlying115 hi v L.length (strs L) hs hown hx (h _ _ (Lib.hid ?_) (Lib.hid (Below.refl _ _)) (Lib.hid ⟨rfl, rfl, rfl, Nat.le_refl _, fun _ _ _ => rfl⟩))
    rw [List.append_nil]
    exact hown
  | some ad =>
    subst hn
    refine wpList_append_own_at w hgd s x _ ho B 9 i _ 1 16 Tryz.underlying115 hi hz0 hz1 hz2 rfl (by decide) v L.length (strs L) hs hown ad M.length c (strs M) hx (by rw [strs_length, Nat.mul_one]) (strsP_src hsrc) (strsP_uni M) (by unfold maxLen; omega) (by omega) hB ?_
    intro v' w' h2 hg _ h3
    refine h v' w' (Lib.hid ?_) (Lib.hid ((Below.refl B w).grown hg hB (fun k hk => (World.ownsRow.lt hown k hk).1))) (Lib.hid hg)
    show w'.ownsRow B _ 1 v' (L ++ M).length (strs (L ++ M))
    rw [List.length_append, hap]
    exact h2
end
theorem strs_lit (w : World) (L : List (List UInt8)) (t : TypeId) : StrsAt (some ⟨w.heap.size, 0, none⟩) L (w.alloc (.cells (strs L).toArray t)) := by
  refine .inr ⟨w.heap.size, 0, rfl, by rw [World.size_alloc]; exact Nat.lt_succ_self _, fun i hi => ?_⟩
  rw [Lib.cell_of_heap (heap_alloc_new w _), List.getElem?_toArray, Nat.zero_add, strs, List.getElem?_map, List.getElem?_eq_getElem hi]
  rfl
def NewS (s : Nat → Bool) (V : Nat → Value) (i n : Nat) (L : List (List UInt8)) (w : World) : Prop := s i = true → ∃ g, V i = .slice (some ⟨g, 0, none⟩) n n ∧ StrsAt (some ⟨g, 0, none⟩) L w
theorem NewS.none {V : Nat → Value} {i n : Nat} {L : List (List UInt8)} {w : World} : NewS (fun _ => false) V i n L w := fun h => by cases h
theorem NewS.ne {s : Nat → Bool} {V : Nat → Value} {i j n : Nat} {L : List (List UInt8)} {w w' : World} {u : Value} (h : NewS s V j n L w) (hne : j ≠ i) (hb : Below w.heap.size w w') : NewS (fun j => s j || j == i) (upd V i u) j n L w' := fun hs => by
  obtain ⟨g, e, hk⟩ := h (seen_ne hne hs)
  exact ⟨g, by rw [upd_ne V u hne]; exact e, hk.below hb⟩
theorem NewS.same {s : Nat → Bool} {V : Nat → Value} {i n : Nat} {L : List (List UInt8)} {w : World} {t : TypeId} : NewS (fun j => s j || j == i) (upd V i (.slice (some ⟨w.heap.size, 0, Option.none⟩) n n)) i n L (w.alloc (.cells (strs L).toArray t)) :=
  fun _ => ⟨w.heap.size, upd_same _ _ _, strs_lit w L t⟩
theorem op_build_strs {P : Program} {o : Oper} {a : Act} {w : World} {K : Act → World → Prop} {Q : Exit → Act → World → Prop} (t e : TypeId) (n : Nat) (xs : Array (Nat × Operand)) (ho : o.op = .buildSlice t n xs) (vs : List (Nat × Value)) (L : List (List UInt8)) (hv : (xs.map fun (i, x) => (i, a.eval x)) = vs.toArray)
    (hr : ∀ w, (Instr.buildSlice t n vs.toArray).run P w = .ok (.slice (some ⟨w.heap.size, 0, none⟩) n n) (w.alloc (.cells (strs L).toArray e)))
    (h : K (a.put o.dst (.slice (some ⟨w.heap.size, 0, none⟩) n n)) (w.alloc (.cells (strs L).toArray e))) : OpWp P o a w K Q := by
  refine ⟨?_⟩
  unfold Oper.wp execOp
  simp only [ho, hv, Sem.run_bind, Sem.run_pure, hr, Result.andThen_ok]
  exact h
theorem built_strs2 (a b : List UInt8) (w : World) : (Instr.buildSlice 115 2 [(0, Value.string ⟨a.toArray⟩), (1, .string ⟨b.toArray⟩)].toArray).run Tryz.prog w = .ok (.slice (some ⟨w.heap.size, 0, none⟩) 2 2) (w.alloc (.cells (strs [a, b]).toArray 9)) := by kernel_rfl
theorem built_strs3 (a b c : List UInt8) (w : World) : (Instr.buildSlice 115 3 [(0, Value.string ⟨a.toArray⟩), (1, .string ⟨b.toArray⟩), (2, .string ⟨c.toArray⟩)].toArray).run Tryz.prog w = .ok (.slice (some ⟨w.heap.size, 0, none⟩) 3 3) (w.alloc (.cells (strs [a, b, c]).toArray 9)) := by kernel_rfl
end Go.Proofs.YtpfhlhcnmeodbaaGreatDoor
