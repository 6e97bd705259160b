/-
  Joined: A range over a map kept by names: the names come, each once, in whatever order.; What a round of a range over a function does with names: load, store, literal, append (the laws of Gen and Ids, inside a fence).; maps.Keys of maps kept by names: what it answers; the iterator's contract. Written by gen/gen_keys.py.; slices.AppendSeq onto nil, slices.Collect: against whatever iterator over names.; op.Compare told to the world; slices.SortFunc of names by it.; slices.SortFunc of a row of names by op.Compare.; slices.SortedFunc of names; the developers' ascending.
-/
import Derived.Ground.SlsfProg
import Derived.Lib.Hide
import Derived.LoopIn
import Derived.LoopNIn
import Derived.Maps.Range
import Derived.OwnWalkIn
import Derived.RangeFuncCalls
import Derived.RangeFuncLeaves
import Derived.RangeFuncNested
import Derived.RangeFuncSeq
import Derived.RangeFuncWrites
import Derived.Shelf.Abstract
import Derived.Shelf.RegionOpen
import Derived.Shelf.SlSortCmp.NoneTotal
import Derived.Shelf.SlSortCmp.WholeK
import Derived.Sort.Grow
import Derived.TacticsInMore
import Derived.WalkKit
import Derived.Test.YtandadfphlandaaGreatDoorJ01
import Derived.Test.YtandadfphlandaaGreatDoorJ03
import Derived.Test.YtandadfphlandaaGreatDoorJ04
import Derived.Test.YtandadfphlandaaGreatDoorJ06
import Derived.Test.YtandadfphlandaaGreatDoorJ14
import Derived.Test.YtandadfphlandaaGreatDoorJ17
namespace Go.Proofs.YtandadfphlandaaGreatDoor
open Go.RowKit
open Go.ChangeMaps (setBlock)
structure IterN (b r : Nat) (L : List (List Nat × Value)) (S : List (List Nat)) (w : World) : Prop where
  ex : ∃ es clock since seen c0, w.heap[b]? = some (.map es clock) ∧ Go.MapKept.Stamped es clock ∧ es.toList.map (fun e => (e.key, e.val)) = L.map (fun p => (idV p.1, p.2)) ∧ w.heap[r]? = some (.mapIter (some b) since seen c0) ∧
    (∀ x ∈ es.toList, x.born < since) ∧ since ≤ c0 ∧ since ≤ clock ∧ ∀ x ∈ es.toList, ∀ n, x.key = idV n → (seen.contains x.born = true ↔ n ∈ S)
  ok : ∀ p ∈ L, IdOk p.1
  nodup : (L.map (·.1)).Nodup
  sn : S.Nodup
  sub : ∀ n ∈ S, n ∈ L.map (·.1)
theorem IterN.ne {b r : Nat} {L : List (List Nat × Value)} {S : List (List Nat)} {w : World} (h : IterN b r L S w) : r ≠ b := by
  obtain ⟨es, clock, since, seen, c0, hb, _, _, hr, _⟩ := h.ex
  intro e
  rw [e, hb] at hr
  cases hr
theorem IterN.walk {b r : Nat} {L : List (List Nat × Value)} {S : List (List Nat)} {w : World} (h : IterN b r L S w) : ∃ o : Obj, w.heap[r]? = some o ∧ o.isWalk = true := by
  obtain ⟨es, clock, since, seen, c0, hb, _, _, hr, _⟩ := h.ex
  exact ⟨_, hr, rfl⟩
theorem IterN.kept {b r : Nat} {L : List (List Nat × Value)} {S : List (List Nat)} {w w' : World} (h : IterN b r L S w) (k : KeepsWalks w w') : IterN b r L S w' := by
  obtain ⟨es, clock, since, seen, c0, hb, h2, h3, hr, rest⟩ := h.ex
  exact ⟨⟨es, clock, since, seen, c0, k.same b _ hb rfl, h2, h3, k.same r _ hr rfl, rest⟩, h.ok, h.nodup, h.sn, h.sub⟩
theorem IterN.left_eq {b r : Nat} {L : List (List Nat × Value)} {S : List (List Nat)} {w w' : World} (h : IterN b r L S w) (k : KeepsWalks w w') : w'.rangeLeft b r = w.rangeLeft b r := by
  obtain ⟨es, clock, since, seen, c0, hb, h2, h3, hr, rest⟩ := h.ex
  simp only [World.rangeLeft, hb, hr, k.same b _ hb rfl, k.same r _ hr rfl]
theorem nodup_le : ∀ {S T : List (List Nat)}, S.Nodup → (∀ n ∈ S, n ∈ T) → S.length ≤ T.length
  | [], T, _, _ => Nat.zero_le _
  | x :: S, T, hn, hs => by
    have h1 := List.nodup_cons.1 hn
    have hx := hs x (by simp)
    have h2 := nodup_le (T := T.erase x) h1.2 (fun n hn' => (List.mem_erase_of_ne (fun e => h1.1 (by rw [← e]; exact hn'))).2 (hs n (by simp [hn'])))
    rw [List.length_erase_of_mem hx] at h2
    have := List.length_pos_of_mem hx
    simp only [List.length_cons]
    omega
theorem IterN.count {b r : Nat} {L : List (List Nat × Value)} {S : List (List Nat)} {w : World} (h : IterN b r L S w) : S.length ≤ L.length := by
  have h1 := nodup_le h.sn h.sub
  rwa [List.length_map] at h1
section
variable {P : Program} {w : World} {T : TypeId} {b r : Nat} {L : List (List Nat × Value)} {S : List (List Nat)}
theorem MapN.range {t k e : TypeId} (h : MapN b L w) (ht : P.underlying t = some (.map k e)) :
    ∃ w', (Instr.range t (.map (some b))).run P w = .ok (.pointer (some ⟨w.heap.size, 0, none⟩)) w' ∧ IterN b w.heap.size L [] w' ∧ w.grownBy w' none ∧ Below w.heap.size w w' ∧ w'.heap.size = w.heap.size + 1 := by
  have hlt := h.lt
  obtain ⟨es, clock, hb, hs, he⟩ := h.ex
  refine ⟨_, run_range_map w t k e b es clock ht hb, ⟨⟨es, clock, clock, #[], clock, ((MapKept.heap_alloc w _).2 b hlt).trans hb, hs, he, (MapKept.heap_alloc w _).1, hs.1, Nat.le_refl _, Nat.le_refl _, fun x _ n _ => ?_⟩, h.ok, h.nodup, List.nodup_nil, fun n hn => by cases hn⟩,
    World.grownBy_alloc w _ none, (Below.refl _ _).alloc (Nat.le_refl _) _, by simp⟩
  simp
theorem IterN.key {es : Array MapEntry} (hes : es.toList.map (fun e => (e.key, e.val)) = L.map (fun p => (idV p.1, p.2))) {e : MapEntry} (he : e ∈ es.toList) : ∃ n v, (n, v) ∈ L ∧ e.key = idV n ∧ e.val = v := by
  have h1 : (e.key, e.val) ∈ L.map (fun p => (idV p.1, p.2)) := hes ▸ List.mem_map.2 ⟨e, he, rfl⟩
  obtain ⟨p, hp, h2⟩ := List.mem_map.1 h1
  injection h2 with h3 h4
  exact ⟨p.1, p.2, hp, h3.symm, h4.symm⟩
theorem IterN.entry {es : Array MapEntry} (hes : es.toList.map (fun e => (e.key, e.val)) = L.map (fun p => (idV p.1, p.2))) {n : List Nat} (hn : n ∈ L.map (·.1)) : ∃ e ∈ es.toList, e.key = idV n := by
  obtain ⟨p, hp, rfl⟩ := List.mem_map.1 hn
  have h1 : (idV p.1, p.2) ∈ es.toList.map (fun e => (e.key, e.val)) := hes ▸ List.mem_map.2 ⟨p, hp, rfl⟩
  obtain ⟨e, he, h2⟩ := List.mem_map.1 h1
  injection h2 with h3 h4
  exact ⟨e, he, h3⟩
theorem IterN.next (h : IterN b r L S w) (ty : TypeId) :
    (S.Perm (L.map (·.1)) ∧ (Instr.next (.pointer (some ⟨r, 0, none⟩)) false ty).run P w = .ok (.tuple #[.bool false]) w) ∨
    ∃ n v w', (n, v) ∈ L ∧ n ∉ S ∧ (Instr.next (.pointer (some ⟨r, 0, none⟩)) false ty).run P w = .ok (.tuple #[.bool true, idV n, v]) w' ∧ IterN b r L (S ++ [n]) w' ∧ w'.rangeLeft b r < w.rangeLeft b r ∧ w.grownBy w' (some r) ∧ w'.heap.size = w.heap.size ∧
      (Instr.entry (.pointer (some ⟨r, 0, none⟩))).run P w' = .ok (.tuple #[idV n, v]) w' := by
  have hne := h.ne
  obtain ⟨es, clock, since, seen, c0, hb, hst, hes, hr, hold, hsc, hsk, hseen⟩ := h.ex
  have hst2 := (Go.MapKept.stamped_iff es clock).1 hst
  rcases run_next_at (P := P) w ty r b since c0 seen es clock hr hb hold hsc with ⟨h0, hrun⟩ | ⟨e, he, w1, hal, hrun⟩
  · refine .inl ⟨?_, hrun⟩
    refine (List.perm_ext_iff_of_nodup h.sn h.nodup).2 fun n => ⟨h.sub n, fun hn => ?_⟩
    obtain ⟨e, he, hk⟩ := IterN.entry hes hn
    exact (hseen e he n hk).1 (all_seen es seen h0 e he)
  · obtain ⟨hem, hesn⟩ := mem_left he
    obtain ⟨n, v, hnv, hkey, hval⟩ := IterN.key hes hem
    have hn : n ∉ S := fun hS => by
      rw [(hseen e hem n hkey).2 hS] at hesn
      cases hesn
    have hr1 : w1.heap[r]? = some (.mapIter (some b) since seen c0) := by rcases hal with rfl | rfl <;> exact hr
    have hb1 : w1.heap[b]? = some (.map es clock) := by rcases hal with rfl | rfl <;> exact hb
    have hset := Go.MapKept.heap_set (o' := .mapIter (some b) since (seen.push e.born) clock) hr1
    have hb' : (setBlock w1 r (.mapIter (some b) since (seen.push e.born) clock)).heap[b]? = some (.map es clock) := (hset.2 b (fun e1 => hne e1.symm)).trans hb1
    refine .inr ⟨n, v, _, hnv, hn, hkey ▸ hval ▸ hrun, ⟨⟨es, clock, since, seen.push e.born, clock, hb', hst, hes, hset.1, hold, hsk, hsk, fun x hx m hm => ?_⟩, h.ok, h.nodup, ?_, ?_⟩, ?_, ?_, ?_, ?_⟩
    · rw [contains_push, List.mem_append, List.mem_singleton, Bool.or_eq_true, hseen x hx m hm, beq_iff_eq]
      constructor
      · rintro (h1 | h1)
        · exact .inl h1
        · right
          have := born_inj hst2.2.1 hx hem h1
          subst this
          exact idV_inj (hm.symm.trans hkey)
      · rintro (h1 | h1)
        · exact .inl h1
        · right
          subst h1
          by_cases hxe : x = e
          · rw [hxe]
          · exact absurd (hm.trans hkey.symm) (fun hk => hxe (entry_eq_of_key hst2.2.2 hx hem hk))
    · exact List.nodup_append.2 ⟨h.sn, by simp, fun a ha c hc e => hn (by rw [List.mem_singleton.1 hc] at e; exact e ▸ ha)⟩
    · intro m hm
      rcases List.mem_append.1 hm with h1 | h1
      · exact h.sub m h1
      · rw [List.mem_singleton.1 h1]
        exact List.mem_map.2 ⟨_, hnv, rfl⟩
    · have hr' : (setBlock w1 r (.mapIter (some b) since (seen.push e.born) clock)).heap[r]? = some (.mapIter (some b) since (seen.push e.born) clock) := hset.1
      simp only [World.rangeLeft, hb, hr, hb', hr']
      exact left_shrinks es seen e he
    · rcases hal with rfl | rfl <;> exact ⟨rfl, rfl, rfl, by simp [setBlock], fun i _ hi => hset.2 i (fun e1 => hi (by rw [e1]))⟩
    · rcases hal with rfl | rfl <;> simp [setBlock]
    · rw [← hkey, ← hval]
      exact run_entry_at _ r b since seen es clock e hset.1 hb' hem hst2.2.1
theorem wpList_range_id {ops : Array Oper} {rest : List Oper} {o : Oper} {a : Act} {Q : Exit → Act → World → Prop} (hg : o.guard = none) (m : Operand) (t : TypeId) (hop : o.op = Op.range t m) (k e : TypeId) (ht : P.underlying t = some (.map k e))
    (hm : a.eval m = .map (some b)) (h : MapN b L w)
    (hK : ∀ w', Hid (IterN b w.heap.size L [] w') → Hid (w.grownBy w' none) → Hid (Below w.heap.size w w') → wpList P ops Q rest (a.put o.dst (.pointer (some ⟨w.heap.size, 0, none⟩))) w') :
    wpList P ops Q (o :: rest) a w := by
  refine wpList_plain hg fun K' hK' => ?_
  obtain ⟨w', hrun, r1, r2, r3, _⟩ := h.range ht
  unfold Oper.wp
  simp [execOp, hop, hm, hrun, Result.andThen]
  exact hK' _ _ (hK w' (Lib.hid r1) (Lib.hid r2) (Lib.hid r3))
theorem wpList_next_id {ops : Array Oper} {rest : List Oper} {o : Oper} {a : Act} {Q : Exit → Act → World → Prop} (hg : o.guard = none) (it : Operand) (hop : o.op = Op.next it false)
    (hit : a.eval it = .pointer (some ⟨r, 0, none⟩)) (h : IterN b r L S w)
    (hDone : Hid (S.Perm (L.map (·.1))) → wpList P ops Q rest (a.put o.dst (.tuple #[.bool false])) w)
    (hMore : ∀ n v w', Hid ((n, v) ∈ L) → Hid (n ∉ S) → Hid (IterN b r L (S ++ [n]) w') → Hid (w'.rangeLeft b r < w.rangeLeft b r) → Hid (w.grownBy w' (some r)) → (Instr.entry (.pointer (some ⟨r, 0, none⟩))).run P w' = .ok (.tuple #[.agg (nums .u8 n).toArray, v]) w' →
      wpList P ops Q rest (a.put o.dst (.tuple #[.bool true, .agg (nums .u8 n).toArray, v])) w') :
    wpList P ops Q (o :: rest) a w := by
  refine wpList_plain hg fun K' hK' => ?_
  unfold Oper.wp
  rcases h.next (P := P) o.type with ⟨h0, hrun⟩ | ⟨n, v, w', h1, h2, hrun, h3, h4, h5, _, h6⟩
  · simp [execOp, hop, hit, hrun, Result.andThen]
    exact hK' _ _ (hDone (Lib.hid h0))
  · simp [execOp, hop, hit, hrun, Result.andThen]
    exact hK' _ _ (hMore n v w' (Lib.hid h1) (Lib.hid h2) (Lib.hid h3) (Lib.hid h4) (Lib.hid h5) h6)
end
end Go.Proofs.YtandadfphlandaaGreatDoor
namespace Go.Proofs.YtandadfphlandaaGreatDoor
open Go.RowKit
section
variable {F : Fence} {m : Nat} {P : Program} {ops : Array Oper} {rest : List Oper} {o : Oper} {a : Act} {w : World} {Q : Exit → Act → World → Prop}
theorem wpListIn_value (hg : o.guard = none) (hd : ∀ c, o.op ≠ .defer c) (hc : ∀ c, o.op ≠ .call c) (v : Value) (w' : World) (hr : (execOp a.eval o).run P w = .ok (.value v) w') (h : wpListIn F m P ops Q rest (a.put o.dst v) w') : wpListIn F m P ops Q (o :: rest) a w := by
  refine wpListIn_plain hg fun K hK => ?_
  unfold Oper.wpIn
  refine ⟨fun f hf => ?_, ?_⟩
  · unfold Oper.about at hf
    cases hop : o.op <;> rw [hop] at hf <;> first | cases hf | exact absurd hop (hc _)
  · rw [Oper.semAt_plain F _ _ hd, hr]
    exact hK _ _ h
theorem wpListIn_load_nums (hgd : o.guard = none) (ty : TypeId) (x : Operand) (ho : o.op = .load ty x)
    (g : Nat) (k : IntKind) (l : List Nat) (t : TypeId) (d : TypeDesc) (hx : a.eval x = .pointer (some ⟨g, 0, none⟩)) (hg : Blk g t k l w)
    (hu : P.underlying ty = some d) (hd : (match d with | .struct _ | .array _ _ => true | _ => false) = true) (hi : (P.info? ty).map (·.size) = some l.length)
    (h : wpListIn F m P ops Q rest (a.put o.dst (.agg (nums k l).toArray)) w) : wpListIn F m P ops Q (o :: rest) a w := by
  refine wpListIn_value hgd (fun c e => by rw [ho] at e; cases e) (fun c e => by rw [ho] at e; cases e) _ _ ?_ h
  unfold execOp
  simp only [ho, hx, Instr.loadAt, Instr.sureAddr, Sem.run_bind, Sem.run_pure, Result.andThen_ok, run_loadVar_row w g t ty _ _ d hg hu hd (by rw [nums_size]; exact hi)]
theorem wpListIn_store_nums (hgd : o.guard = none) (ty : TypeId) (x y : Operand) (ho : o.op = .store ty x y)
    (hd : o.dst = none) (g : Nat) (k : IntKind) (l l' : List Nat) (t : TypeId) (hx : a.eval x = .pointer (some ⟨g, 0, none⟩)) (hy : a.eval y = .agg (nums k l').toArray)
    (hg : Blk g t k l w) (hi : (P.info? ty).map (·.size) = some l'.length) (hl : l.length = l'.length)
    (h : ∀ w', Hid (Blk g t k l' w') → Hid (But g w w') → wpListIn F m P ops Q rest a w') : wpListIn F m P ops Q (o :: rest) a w := by
  refine wpListIn_plain hgd fun K hK => ?_
  unfold Oper.wpIn
  refine ⟨fun f hf => (by unfold Oper.about at hf; rw [ho] at hf; cases hf), ?_⟩
  rw [Oper.semAt_plain F _ _ (fun c e => by rw [ho] at e; cases e)]
  unfold execOp
  simp only [ho, hx, hy, Instr.storeAt, Instr.sureAddr, Sem.run_bind, Sem.run_pure, Result.andThen_ok, run_storeVar_row w g t ty _ _ hg (by rw [nums_size]; exact hi) (by rw [nums_size, nums_size]; exact hl) (nums_all k l')]
  have h2 := h (w.setRow g (nums k l').toArray) hg.row ((But.refl g w).setRow _)
  show K (a.put o.dst undef) (w.setRow g (nums k l').toArray)
  rw [hd]
  exact hK _ _ h2
theorem wpListIn_build_id (hg : o.guard = none) (t e : TypeId) (x : Operand) (ho : o.op = .buildSlice t 1 #[(0, x)])
    (l : List Nat) (hx : a.eval x = .agg (nums .u8 l).toArray) (hl : l.length = 32) (ht : P.underlying t = some (.slice e)) (hinfo : (P.info? e).map (fun i => (i.zero, i.size, i.bytes)) = some (some (.agg (nums .u8 (List.replicate 32 0)).toArray), 32, 32))
    (h : ∀ w', Hid (Blk w.heap.size e .u8 l w') → Hid (Below w.heap.size w w') → wpListIn F m P ops Q rest (a.put o.dst (.slice (some ⟨w.heap.size, 0, none⟩) 1 1)) w') : wpListIn F m P ops Q (o :: rest) a w := by
  obtain ⟨ie, hi, hz0, hz1, _⟩ := info_parts hinfo
  have h1 := Great.fill_whole (s := 32) (by decide) [Value.agg (nums .u8 l).toArray] ((Array.range (1 * 32)).map ((Value.agg (nums .u8 (List.replicate 32 0)).toArray).cells[· % (Value.agg (nums .u8 (List.replicate 32 0)).toArray).cells.size]!))
    (fun v hv => by obtain rfl := List.mem_singleton.1 hv; show (nums .u8 l).toArray.size = 32; rw [List.size_toArray, nums_len, hl]) (by simp)
  have e1 : ((#[(0, x)] : Array (Nat × Operand)).map fun (i, x) => (i, a.eval x)).toList = ([Value.agg (nums .u8 l).toArray].zipIdx 0).map fun x => (x.2, x.1) := by
    simp [hx, List.zipIdx_cons]
  have e2 : ([Value.agg (nums .u8 l).toArray].flatMap fun v => v.cells.toList).toArray = (nums .u8 l).toArray := by
    rw [List.flatMap_cons, List.flatMap_nil, List.append_nil]
    rfl
  have hr := run_buildSlice (P := P) w t e 1 ((#[(0, x)] : Array (Nat × Operand)).map fun (i, x) => (i, a.eval x)) (nums .u8 l).toArray ie _ ht hi hz0 (by rw [hz1]; decide) (by rw [hz1]; decide) (by rw [hz1, e1, h1, e2])
  refine wpListIn_value hg (fun c e => by rw [ho] at e; cases e) (fun c e => by rw [ho] at e; cases e) _ _ ?_ (h _ (heap_alloc_new w _) ((Below.refl _ w).alloc (Nat.le_refl _) _))
  unfold execOp
  simp only [ho, Sem.run_bind, hr, Result.andThen_ok]
  rfl
theorem wpListIn_append_id (hgd : o.guard = none) (s x : Operand) (t e : TypeId)
    (ho : o.op = .call { callee := .builtin .append, args := #[s, x], argTypes := #[t, t] })
    (B : Nat) (ht : P.underlying t = some (.slice e)) (hinfo : (P.info? e).map (fun i => (i.zero, i.size, i.bytes)) = some (some (.agg (nums .u8 (List.replicate 32 0)).toArray), 32, 32))
    (v : Value) (L : List (List Nat)) (y : List Nat) (hy : IdOk y) (ad : Addr) (n c : Nat) (hn : n = 1) (hs : a.eval s = v) (hown : OwnI B e v L w) (hx : a.eval x = .slice (some ad) n c) (hsrc : IAt (some ad) [y] w)
    (h63 : L.length + 1 ≤ 1000000) (hB : B ≤ w.heap.size)
    (h : ∀ v' w', Hid (OwnI B e v' (L ++ [y]) w') → Hid (w.grownBy w' v.ownBlock) → wpListIn F m P ops Q rest (a.put o.dst v') w') : wpListIn F m P ops Q (o :: rest) a w := by
  obtain ⟨i, hi, hz0, hz1, hz2⟩ := info_parts hinfo
  subst hn
  have hM : Ids [y] := Ids.one hy.1 hy.2
  refine wpListIn_append_own w hgd s x _ ho B e i _ 32 32 ht hi hz0 hz1 hz2 rfl (by decide) v L.length (flatI L) hs hown ad 1 c (flatI [y]) hx (flatI_len hM) (iat_cells hsrc hM) (flatI_all [y]) (by unfold maxLen; omega) (by omega) hB ?_
  intro v' w' h2 hg h3
  refine h v' w' ?_ hg
  show w'.ownsRow B e 32 v' (L ++ [y]).length (flatI (L ++ [y]))
  rw [List.length_append, flatI_append]
  exact h2
end
theorem grown_of {w w' : World} (h : Below w.heap.size w w') (row : Option Nat) : w.grownBy w' row := ⟨h.os, h.tape, h.output, h.size, fun k hk _ => h.block k hk⟩
theorem keeps_of {w w' : World} (h : Below w.heap.size w w') : KeepsWalks w w' := ⟨h.size, fun k _ hk _ => (h.block k (Array.getElem?_eq_some_iff.1 hk).1).trans hk⟩
end Go.Proofs.YtandadfphlandaaGreatDoor
namespace Go.Proofs.YtandadfphlandaaGreatDoor
open Go.RowKit Go.BigFrame
attribute [local go_sem] Oper.semAt_some
structure NId where
  val : List Nat
  ok : IdOk val
def valsI (l : List NId) : List (List Nat) := l.map NId.val
theorem valsI_snoc (l : List NId) (x : NId) : valsI (l ++ [x]) = valsI l ++ [x.val] := by simp [valsI]
theorem valsI_len (l : List NId) : (valsI l).length = l.length := by simp [valsI]
theorem keys_o (b : Nat) (w : World) :
    Calls Tryz.prog 58 #[.map (some b)] w fun x w' => x = .returned (.func (.func 74) #[] #[.pointer (some ⟨w.heap.size, 0, none⟩)]) ∧ Cells w.heap.size 61 #[.map (some b)] w' ∧ w'.heap.size = w.heap.size + 1 ∧ Below w.heap.size w w' := by
  go_enter Tryz.func58, Tryz.ntmps58
  go_wp2_with fail
  go_ret
  exact ⟨rfl, heap_alloc_new w _, World.size_alloc _ _, (Below.refl _ _).alloc (Nat.le_refl _) _⟩
set_option maxRecDepth 100000 in
set_option maxHeartbeats 4000000 in
theorem keys1_o (m l Bm b : Nat) (L : List (List Nat × Value)) (J Jx : List NId → World → Prop) (W : World) (hJ : AbidesFrom W.heap.size J) (hBm : W.cell? ⟨Bm, 0, none⟩ = some (.map (some b))) (hM : MapN b L W)
    (hY : ∀ pre (x : NId) W1, J pre W1 → pre.length < L.length → YieldAt Fence.wide (m - 1) Tryz.prog l #[.agg (nums .u8 x.val).toArray] W1 fun e W' =>
      (e = .returned (.bool true) ∧ J (pre ++ [x]) W' ∧ KeepsWalks W1 W') ∨ (e = .returned (.bool false) ∧ Jx (pre ++ [x]) W'))
    (h0 : J [] W) :
    CallsIn Fence.wide m Tryz.prog 74 #[.func (.yield l) #[] #[], .pointer (some ⟨Bm, 0, none⟩)] W fun e W' => (∃ v, e = .returned v) ∧
      ((∃ xs, (valsI xs).Perm (L.map (·.1)) ∧ J xs W') ∨ (∃ pre : List NId, pre.length ≤ L.length ∧ Jx pre W')) := by
  refine callsIn_wide.2 ?_
  have HJ := Lib.hid hJ
  have HY := Lib.hid hY
  have HM := Lib.hid hM
  have H0 := Lib.hid h0
  clear hJ hY hM h0
  go_enter Tryz.func74, Tryz.ntmps74
  go_wp2_with (refine wpList_range_id rfl _ 61 rfl 25 38 Tryz.underlying61 rfl HM.out ?_)
  intro w0 hi0 hg0 hb0
  have HI0 := Lib.hid (show ∃ ss : List NId, IterN b W.heap.size L (valsI ss) w0 ∧ J ss w0 from ⟨[], hi0.out, HJ.out [] W w0 none H0.out hg0.out (fun r e => by cases e)⟩)
  obtain ⟨r, hr⟩ : ∃ r, W.heap.size = r := ⟨_, rfl⟩
  rw [hr] at HI0 HJ ⊢
  clear hi0 hg0 hb0 HM H0 hBm hr
  go_wp2_with fail
  go_loopw [3] (fun _ wr => ∃ ss : List NId, IterN b r L (valsI ss) wr ∧ J ss wr) (fun _ wr => wr.rangeLeft b r)
  case atStart => exact HI0.out
  case round =>
    clear HI0
    obtain ⟨ss, hit, hJs⟩ := hrel
    have HIT := Lib.hid hit
    have HJS := Lib.hid hJs
    clear hit hJs
    go_wp2_with (refine wpList_next_id rfl _ rfl rfl HIT.out ?_ ?_)
    · intro hp
      go_wp2_with fail
      refine bodyPost_end (results_none rfl _ _ _) rfl ?_
      exact ⟨⟨_, rfl⟩, .inl ⟨ss, hp.out, HJS.out⟩⟩
    · intro n v w2 hnv hns hi2 hlt hg2 hen
      have hxok : IdOk n := HIT.out.ok _ hnv.out
      have HX := Lib.hid hxok
      have HLT := Lib.hid hlt.out
      have hj2 : J ss w2 := HJ.out ss wr w2 (some r) HJS.out hg2.out (fun q e => by cases e; exact ⟨Nat.le_refl _, HIT.out.walk⟩)
      have HJ2 := Lib.hid hj2
      have HI2 := Lib.hid hi2.out
      have HS1 := Lib.hid (show (Tryz.prog.info? 25).map (·.size) = some n.length by rw [hxok.1]; exact Tryz.sizeI)
      have HL2 := Lib.hid (show (List.replicate 32 0).length = n.length by rw [hxok.1]; rfl)
      clear hnv hns hi2 hlt hg2 hxok hj2
      go_wp2_with (refine wpList_store_nums rfl 25 _ _ rfl rfl w2.heap.size .u8 (List.replicate 32 0) n 25 rfl rfl (heap_alloc_new w2 _) HS1.out HL2.out ?_)
      intro w3 hc3 hb3
      have hB3 : Below w2.heap.size w2 w3 := But.toBelow ((Below.refl _ _).alloc (Nat.le_refl _) _) hb3.out (Nat.le_refl _) (by rw [World.size_alloc]; exact Nat.le_succ _)
      have HB3 := Lib.hid hB3
      have HC3 := Lib.hid hc3.out
      have HJ3 := Lib.hid (HJ.out ss w2 w3 none HJ2.out (grown_of hB3 none) (fun q e => by cases e))
      have HI3 := Lib.hid (HI2.out.kept (keeps_of hB3))
      have HR3 := Lib.hid (HI2.out.left_eq (keeps_of hB3))
      obtain ⟨g, hg⟩ : ∃ g, w2.heap.size = g := ⟨_, rfl⟩
      rw [hg] at HC3 ⊢
      clear hc3 hb3 hB3 HJ2 hg hen
      obtain ⟨fn, tmps, assign, body, hy, hR⟩ := HY.out ss ⟨n, HX.out⟩ w3 HJ3.out (by
        have := HI3.out.count
        rw [List.length_append, valsI_len] at this
        simp only [List.length_singleton] at this
        omega)
      have HYY := Lib.hid hy
      have HRR := Lib.hid hR
      clear hy hR
      go_upto_region 3 with (fail)
      refine (wpIn_wide (n := m)).1 ?_
      refine wpIn_region_lit ?_
      gi_wp2_with (refine wpListIn_load_nums rfl 25 _ rfl g .u8 n 25 _ rfl HC3.out Tryz.underlying25 rfl HS1.out ?_)
      have hy : (Instr.yield l #[.agg (nums .u8 n).toArray]).run Tryz.prog w3 = .ok (.round l fn tmps assign body) w3 := HYY.out
      rw [hy]
      refine ⟨(fun h => by cases h), ?_⟩
      refine HRR.out.mono ?_
      rintro e w4 (⟨rfl, hJ4, hk4⟩ | ⟨rfl, hJx4⟩)
      · have HREL := Lib.hid (show ∃ ss : List NId, IterN b r L (valsI ss) w4 ∧ J ss w4 from ⟨_, by rw [valsI_snoc]; exact HI3.out.kept hk4, hJ4⟩)
        have HMS := Lib.hid (show w4.rangeLeft b r < wr.rangeLeft b r from by rw [HI3.out.left_eq hk4, HR3.out]; exact HLT.out)
        clear hJ4 hk4 hy
        gi_wp2
        go_wp2_with fail
        exact ⟨HREL.out, HMS.out⟩
      · have HJ4 := Lib.hid hJx4
        clear hJx4 hy
        gi_wp2
        go_wp2_with fail
        refine bodyPost_ret (results_none rfl _ _ _) rfl ?_
        exact ⟨⟨_, rfl⟩, .inr ⟨_, by have := HI3.out.count; rw [← valsI_snoc ss ⟨n, HX.out⟩, valsI_len] at this; exact this, HJ4.out⟩⟩
theorem keys_seq_o (m Bm b : Nat) (L : List (List Nat × Value)) (w : World) (hBm : Cells Bm 61 #[.map (some b)] w) (hM : MapN b L w) :
    SeqStopsK Fence.wide m Tryz.prog 74 #[.pointer (some ⟨Bm, 0, none⟩)] (fun x : NId => #[.agg (nums .u8 x.val).toArray]) KeepsWalks (fun xs => (valsI xs).Perm (L.map (·.1))) (fun pre => pre.length ≤ L.length) L.length w := fun l J Jx W hW hJ _ hY h0 => by
  have hc := (hBm.below hW).at 0
  exact keys1_o m l Bm b L J Jx W hJ hc (hM.below hW) hY h0
theorem keys_u (b : Nat) (w : World) :
    Calls Tryz.prog 60 #[.map (some b)] w fun x w' => x = .returned (.func (.func 76) #[] #[.pointer (some ⟨w.heap.size, 0, none⟩)]) ∧ Cells w.heap.size 62 #[.map (some b)] w' ∧ w'.heap.size = w.heap.size + 1 ∧ Below w.heap.size w w' := by
  go_enter Tryz.func60, Tryz.ntmps60
  go_wp2_with fail
  go_ret
  exact ⟨rfl, heap_alloc_new w _, World.size_alloc _ _, (Below.refl _ _).alloc (Nat.le_refl _) _⟩
set_option maxRecDepth 100000 in
set_option maxHeartbeats 4000000 in
theorem keys1_u (m l Bm b : Nat) (L : List (List Nat × Value)) (J Jx : List NId → World → Prop) (W : World) (hJ : AbidesFrom W.heap.size J) (hBm : W.cell? ⟨Bm, 0, none⟩ = some (.map (some b))) (hM : MapN b L W)
    (hY : ∀ pre (x : NId) W1, J pre W1 → pre.length < L.length → YieldAt Fence.wide (m - 1) Tryz.prog l #[.agg (nums .u8 x.val).toArray] W1 fun e W' =>
      (e = .returned (.bool true) ∧ J (pre ++ [x]) W' ∧ KeepsWalks W1 W') ∨ (e = .returned (.bool false) ∧ Jx (pre ++ [x]) W'))
    (h0 : J [] W) :
    CallsIn Fence.wide m Tryz.prog 76 #[.func (.yield l) #[] #[], .pointer (some ⟨Bm, 0, none⟩)] W fun e W' => (∃ v, e = .returned v) ∧
      ((∃ xs, (valsI xs).Perm (L.map (·.1)) ∧ J xs W') ∨ (∃ pre : List NId, pre.length ≤ L.length ∧ Jx pre W')) := by
  refine callsIn_wide.2 ?_
  have HJ := Lib.hid hJ
  have HY := Lib.hid hY
  have HM := Lib.hid hM
  have H0 := Lib.hid h0
  clear hJ hY hM h0
  go_enter Tryz.func76, Tryz.ntmps76
  go_wp2_with (refine wpList_range_id rfl _ 62 rfl 25 77 Tryz.underlying62 rfl HM.out ?_)
  intro w0 hi0 hg0 hb0
  have HI0 := Lib.hid (show ∃ ss : List NId, IterN b W.heap.size L (valsI ss) w0 ∧ J ss w0 from ⟨[], hi0.out, HJ.out [] W w0 none H0.out hg0.out (fun r e => by cases e)⟩)
  obtain ⟨r, hr⟩ : ∃ r, W.heap.size = r := ⟨_, rfl⟩
  rw [hr] at HI0 HJ ⊢
  clear hi0 hg0 hb0 HM H0 hBm hr
  go_wp2_with fail
  go_loopw [3] (fun _ wr => ∃ ss : List NId, IterN b r L (valsI ss) wr ∧ J ss wr) (fun _ wr => wr.rangeLeft b r)
  case atStart => exact HI0.out
  case round =>
    clear HI0
    obtain ⟨ss, hit, hJs⟩ := hrel
    have HIT := Lib.hid hit
    have HJS := Lib.hid hJs
    clear hit hJs
    go_wp2_with (refine wpList_next_id rfl _ rfl rfl HIT.out ?_ ?_)
    · intro hp
      go_wp2_with fail
      refine bodyPost_end (results_none rfl _ _ _) rfl ?_
      exact ⟨⟨_, rfl⟩, .inl ⟨ss, hp.out, HJS.out⟩⟩
    · intro n v w2 hnv hns hi2 hlt hg2 hen
      have hxok : IdOk n := HIT.out.ok _ hnv.out
      have HX := Lib.hid hxok
      have HLT := Lib.hid hlt.out
      have hj2 : J ss w2 := HJ.out ss wr w2 (some r) HJS.out hg2.out (fun q e => by cases e; exact ⟨Nat.le_refl _, HIT.out.walk⟩)
      have HJ2 := Lib.hid hj2
      have HI2 := Lib.hid hi2.out
      have HS1 := Lib.hid (show (Tryz.prog.info? 25).map (·.size) = some n.length by rw [hxok.1]; exact Tryz.sizeI)
      have HL2 := Lib.hid (show (List.replicate 32 0).length = n.length by rw [hxok.1]; rfl)
      clear hnv hns hi2 hlt hg2 hxok hj2
      go_wp2_with (refine wpList_store_nums rfl 25 _ _ rfl rfl w2.heap.size .u8 (List.replicate 32 0) n 25 rfl rfl (heap_alloc_new w2 _) HS1.out HL2.out ?_)
      intro w3 hc3 hb3
      have hB3 : Below w2.heap.size w2 w3 := But.toBelow ((Below.refl _ _).alloc (Nat.le_refl _) _) hb3.out (Nat.le_refl _) (by rw [World.size_alloc]; exact Nat.le_succ _)
      have HB3 := Lib.hid hB3
      have HC3 := Lib.hid hc3.out
      have HJ3 := Lib.hid (HJ.out ss w2 w3 none HJ2.out (grown_of hB3 none) (fun q e => by cases e))
      have HI3 := Lib.hid (HI2.out.kept (keeps_of hB3))
      have HR3 := Lib.hid (HI2.out.left_eq (keeps_of hB3))
      obtain ⟨g, hg⟩ : ∃ g, w2.heap.size = g := ⟨_, rfl⟩
      rw [hg] at HC3 ⊢
      clear hc3 hb3 hB3 HJ2 hg hen
      obtain ⟨fn, tmps, assign, body, hy, hR⟩ := HY.out ss ⟨n, HX.out⟩ w3 HJ3.out (by
        have := HI3.out.count
        rw [List.length_append, valsI_len] at this
        simp only [List.length_singleton] at this
        omega)
      have HYY := Lib.hid hy
      have HRR := Lib.hid hR
      clear hy hR
      go_upto_region 3 with (fail)
      refine (wpIn_wide (n := m)).1 ?_
      refine wpIn_region_lit ?_
      gi_wp2_with (refine wpListIn_load_nums rfl 25 _ rfl g .u8 n 25 _ rfl HC3.out Tryz.underlying25 rfl HS1.out ?_)
      have hy : (Instr.yield l #[.agg (nums .u8 n).toArray]).run Tryz.prog w3 = .ok (.round l fn tmps assign body) w3 := HYY.out
      rw [hy]
      refine ⟨(fun h => by cases h), ?_⟩
      refine HRR.out.mono ?_
      rintro e w4 (⟨rfl, hJ4, hk4⟩ | ⟨rfl, hJx4⟩)
      · have HREL := Lib.hid (show ∃ ss : List NId, IterN b r L (valsI ss) w4 ∧ J ss w4 from ⟨_, by rw [valsI_snoc]; exact HI3.out.kept hk4, hJ4⟩)
        have HMS := Lib.hid (show w4.rangeLeft b r < wr.rangeLeft b r from by rw [HI3.out.left_eq hk4, HR3.out]; exact HLT.out)
        clear hJ4 hk4 hy
        gi_wp2
        go_wp2_with fail
        exact ⟨HREL.out, HMS.out⟩
      · have HJ4 := Lib.hid hJx4
        clear hJx4 hy
        gi_wp2
        go_wp2_with fail
        refine bodyPost_ret (results_none rfl _ _ _) rfl ?_
        exact ⟨⟨_, rfl⟩, .inr ⟨_, by have := HI3.out.count; rw [← valsI_snoc ss ⟨n, HX.out⟩, valsI_len] at this; exact this, HJ4.out⟩⟩
theorem keys_seq_u (m Bm b : Nat) (L : List (List Nat × Value)) (w : World) (hBm : Cells Bm 62 #[.map (some b)] w) (hM : MapN b L w) :
    SeqStopsK Fence.wide m Tryz.prog 76 #[.pointer (some ⟨Bm, 0, none⟩)] (fun x : NId => #[.agg (nums .u8 x.val).toArray]) KeepsWalks (fun xs => (valsI xs).Perm (L.map (·.1))) (fun pre => pre.length ≤ L.length) L.length w := fun l J Jx W hW hJ _ hY h0 => by
  have hc := (hBm.below hW).at 0
  exact keys1_u m l Bm b L J Jx W hJ hc (hM.below hW) hY h0
end Go.Proofs.YtandadfphlandaaGreatDoor
namespace Go.Proofs.YtandadfphlandaaGreatDoor
open Go.RowKit Go.BigFrame
attribute [local go_sem] Oper.semAt_some
theorem keeps_row {W W' : World} {row : Option Nat} (hg : W.grownBy W' row) (hr : ∀ r, row = some r → ∃ o : Obj, W.heap[r]? = some o ∧ o.isCells = true) : KeepsOthers W W' :=
  ⟨hg.size, fun k o hk ho => (hg.block k (Array.getElem?_eq_some_iff.1 hk).1 (fun e => by
    obtain ⟨o', h1, h2⟩ := hr k e.symm
    rw [hk] at h1
    cases h1
    rw [ho] at h2
    cases h2)).trans hk⟩
theorem keeps_walks {W W' : World} (h : KeepsOthers W W') : KeepsWalks W W' := ⟨h.size, fun k o hk ho => h.same k o hk (Obj.not_cells_of_walk ho)⟩
theorem own_cells {B : Nat} {e : TypeId} {v : Value} {L : List (List Nat)} {w : World} (h : OwnI B e v L w) : ∀ r, v.ownBlock = some r → ∃ o : Obj, w.heap[r]? = some o ∧ o.isCells = true := fun r hr => by
  rcases h.2 with ⟨h0, _⟩ | ⟨g, cap, cur, h0, _, hh, _⟩
  · rw [h0] at hr; cases hr
  · rw [h0] at hr
    obtain rfl : g = r := by injection hr
    exact ⟨_, hh, rfl⟩
theorem own_notCells {B g : Nat} {e t : TypeId} {v : Value} {L : List (List Nat)} {cs : Array Value} {w : World} (h : OwnI B e v L w) (hc : Cells g t cs w) (hne : t ≠ e) : ∀ k, v.ownBlock = some k → g ≠ k := fun k hk hgk => by
  subst hgk
  rcases h.2 with ⟨h0, _⟩ | ⟨g', cap, cur, h0, _, hh, _⟩
  · rw [h0] at hk; cases hk
  · rw [h0] at hk
    obtain rfl : g' = g := by injection hk
    rw [show w.heap[g']? = _ from hc] at hh
    injection hh with hh
    injection hh with _ h2 _
    exact hne h2
structure ApN (w0 : World) (gb N : Nat) (pre : List NId) (W : World) : Prop where
  ex : ∃ v, Cells gb 34 #[v] W ∧ OwnI w0.heap.size 25 v (valsI pre) W
  below : Below w0.heap.size w0 W
theorem ApN.kept {w0 : World} {gb N : Nat} {pre : List NId} {W W' : World} {row : Option Nat} (h : ApN w0 gb N pre W) (hg : W.grownBy W' row) (hr : ∀ r, row = some r → w0.heap.size ≤ r ∧ ∃ o : Obj, W.heap[r]? = some o ∧ o.isCells = false) : ApN w0 gb N pre W' := by
  obtain ⟨v, h1, h2⟩ := h.ex
  refine ⟨⟨v, (hg.block gb h1.lt (fun e => ?_)).trans h1, World.ownsRow.kept h2 hg ?_⟩, h.below.grown hg h.below.size (fun k e => (hr k e).1)⟩
  · obtain ⟨_, o, h3, h4⟩ := hr gb e.symm
    rw [show W.heap[gb]? = _ from h1] at h3
    cases h3
    cases h4
  · cases hv : v.ownBlock with
    | none => exact .inl rfl
    | some r =>
      right
      intro e
      obtain ⟨o, h3, h4⟩ := own_cells h2 r hv
      obtain ⟨_, o', h5, h6⟩ := hr r e.symm
      rw [h3] at h5
      cases h5
      rw [h4] at h6
      cases h6
set_option maxRecDepth 100000 in
set_option maxHeartbeats 4000000 in
theorem appendSeq_any (g : Nat) (lb : Array Value) (eg : ∀ args w, (callFunc g args).run Tryz.prog w = .ok (.enter g args) w) (S Sp : List NId → Prop) (N : Nat) (hN : N ≤ 100000) (w : World)
    (hseq : SeqStopsK Fence.wide 2 Tryz.prog g lb (fun x : NId => #[.agg (nums .u8 x.val).toArray]) KeepsWalks S Sp N w) :
    Calls Tryz.prog 89 #[.slice none 0 0, .func (.func g) #[] lb] w fun e w' => ∃ v ss, e = .returned v ∧ S ss ∧ OwnI w.heap.size 25 v (valsI ss) w' ∧ Below w.heap.size w w' := by
  have HSEQ := Lib.hid hseq
  have HEG := Lib.hid eg
  clear hseq eg
  refine callsIn_wide (n := 3) |>.1 ?_
  refine callsIn_of_wp_marks Tryz.func89 rfl trivial ?_ rfl
  simp only [Tryz.ntmps89, List.size_toArray, List.length_cons, List.length_nil, Nat.reduceAdd, Nat.reduceSub, Array.replicate_succ, Array.replicate_zero, List.push_toArray, List.append_toArray, List.nil_append, List.cons_append]
  refine wpIn_wide.2 ?_
  go_wp2_with fail
  obtain ⟨w1, hw1⟩ : ∃ z, z = w.alloc (.cells #[.slice none 0 0] 34) := ⟨_, rfl⟩
  have hb1 : Below w.heap.size w w1 := hw1 ▸ (Below.refl _ _).alloc (Nat.le_refl _) _
  have hc1 : Cells w.heap.size 34 #[.slice none 0 0] w1 := hw1 ▸ heap_alloc_new w _
  have hz1 : w1.heap.size = w.heap.size + 1 := hw1 ▸ World.size_alloc _ _
  rw [← hw1]
  obtain ⟨gb, hgb⟩ : ∃ g, w.heap.size = g := ⟨_, rfl⟩
  have HGB := Shut.mk hgb
  have HB1 := Lib.hid hb1
  have HC1 := Lib.hid hc1
  have HZ1 := Shut.mk hz1
  rw [hgb] at HC1 ⊢
  clear hw1 hb1 hc1 hz1 hgb
  refine (wpIn_wide (n := 3)).1 ?_
  refine wpIn_rangeFunc_ownH rfl (by decide) (gf := g) (lb := lb) rfl trivial HEG.out HSEQ.out KeepsWalks.trans (fun W l o o' _ hl _ hk => KeepsWalks.putObj o' hl hk) HB1.out (fun _ => rfl)
    (ApN w gb N) (fun _ _ _ => False) ?own (fun _ _ _ _ _ h _ _ => h) ?start
    (fun x a' W => ∃ gx, Blk gx 25 .u8 x.val W ∧ a' = { tmps := #[.slice none 0 0, .func (.func g) #[] lb, .pointer (some ⟨gb, 0, none⟩), undef, .slice none 0 0, .pointer (some ⟨gx, 0, none⟩), .func (.func g) #[] lb, .agg (nums .u8 x.val).toArray, undef, undef, undef, undef, undef], defers := [] })
    ?ax ?assign ?body ?done ?stop
  case own =>
    intro pre W W' row h hg hr
    exact h.kept hg (fun r e => ⟨by have := (hr r e).1; have := HZ1.out; have := HB1.out.size; omega, (hr r e).2⟩)
  case start => exact ⟨⟨_, HC1.out, OwnI.nil _ _ _⟩, HB1.out⟩
  case ax =>
    rintro x a' u W W' row ⟨gx, h1, h2⟩ hg hr
    exact ⟨gx, (hg.block gx h1.lt (fun e => by
      obtain ⟨_, o, h3, h4⟩ := hr gx e.symm
      rw [show W.heap[gx]? = _ from h1] at h3
      cases h3
      cases h4)).trans h1, h2⟩
  case assign =>
    intro l pre x W K hI hK
    have HI := Lib.hid hI
    have HK := Lib.hid hK
    have HS1 := Lib.hid (show (Tryz.prog.info? 25).map (·.size) = some x.val.length by rw [x.ok.1]; exact Tryz.sizeI)
    have HL2 := Lib.hid (show (List.replicate 32 0).length = x.val.length by rw [x.ok.1]; rfl)
    clear hI hK
    obtain ⟨n, hn⟩ : ∃ n, x.val = n := ⟨_, rfl⟩
    have HNX := Shut.mk hn
    rw [hn] at HS1 HL2 ⊢
    clear hn
    refine wpIn_region_lit ?_
    gi_wp2_with (refine wpListIn_store_nums rfl 25 _ _ rfl rfl W.heap.size .u8 (List.replicate 32 0) n 25 rfl rfl (heap_alloc_new W _) HS1.out HL2.out ?_)
    intro w3 hc3 hb3
    have hB3 : Below W.heap.size W w3 := But.toBelow ((Below.refl _ _).alloc (Nat.le_refl _) _) hb3.out (Nat.le_refl _) (by rw [World.size_alloc]; exact Nat.le_succ _)
    refine HK.out _ w3 ((keeps_row (grown_of hB3 none) (fun r e => by cases e)).from _) (keeps_of hB3) (HI.out.kept (grown_of hB3 none) (fun r e => by cases e)) ⟨W.heap.size, by rw [HNX.out]; exact hc3.out, ?_⟩
    rw [HNX.out]
  case body =>
    rintro l pre x a' W hl - hI ⟨gx, hgx, rfl⟩ hlen
    obtain ⟨v, hcb, hown⟩ := hI.ex
    obtain ⟨ao, c, rfl⟩ := hown.form
    have c0 := hcb.at 0
    simp only [List.getElem?_toArray, List.getElem?_cons_zero] at c0
    have HI := Lib.hid hI
    have HCB := Lib.hid hcb
    have HO := Lib.hid hown
    have HGX := Lib.hid hgx
    have HLE := Lib.hid hlen
    have HXO := Lib.hid x.ok
    have HXS := Shut.mk (valsI_snoc pre x)
    have HPL := Shut.mk (valsI_len pre)
    have HS1 := Lib.hid (show (Tryz.prog.info? 25).map (·.size) = some x.val.length by rw [x.ok.1]; exact Tryz.sizeI)
    obtain ⟨n, hn⟩ : ∃ n, x.val = n := ⟨_, rfl⟩
    rw [hn] at HGX HXO HS1 HXS ⊢
    obtain ⟨L, hL⟩ : ∃ L, valsI pre = L := ⟨_, rfl⟩
    rw [hL] at HO HXS HPL c0 HCB
    clear hn hI hcb hown hgx hlen hL
    refine wpIn_block ?_
    refine wpIn_region_lit ?_
    gi_wp2_with (first
      | (refine wpListIn_load_nums rfl 25 _ rfl gx .u8 n 25 _ rfl HGX.out Tryz.underlying25 rfl HS1.out ?_)
      | (refine wpListIn_build_id rfl 34 25 _ rfl n rfl HXO.out.1 Tryz.underlying34 Tryz.infoI32 ?_))
    intro w3 hk3 hb3
    have HB3 := Lib.hid hb3.out
    have HO3 := Lib.hid (HO.out.below hb3.out)
    have HCB3 := Lib.hid (HCB.out.below hb3.out)
    have HIA3 := Lib.hid (iat_blk hk3.out)
    have HBS := Lib.hid (show w.heap.size ≤ w3.heap.size from (HI.out.below.trans (hb3.out.mono HI.out.below.size)).size)
    obtain ⟨gl, hgl⟩ : ∃ g, W.heap.size = g := ⟨_, rfl⟩
    rw [hgl] at HIA3 ⊢
    clear hk3 hb3 c0 hgl
    gi_wp2_with (refine wpListIn_append_id rfl _ _ 34 25 rfl w.heap.size Tryz.underlying34 Tryz.infoI32 (.slice ao L.length c) L n HXO.out ⟨gl, 0, none⟩ 1 1 rfl rfl HO3.out rfl HIA3.out (by have := HLE.out; have := HPL.out; omega) HBS.out ?_)
    intro v4 w4 ho4 hg4
    have hne4 : some gb ≠ (Value.slice ao L.length c).ownBlock := fun e => by
      exact own_notCells HO3.out HCB3.out (by decide) gb e.symm rfl
    have hcb4 : Cells gb 34 #[.slice ao L.length c] w4 := (hg4.out.block gb HCB3.out.lt hne4).trans HCB3.out
    have c4 := hcb4.at 0
    simp only [List.getElem?_toArray, List.getElem?_cons_zero] at c4
    have f4 := hcb4.frozen 0
    have HCB4 := Lib.hid hcb4
    have HO4 := Lib.hid ho4.out
    have HG4 := Lib.hid hg4.out
    have HK34 := Lib.hid ((keeps_row (grown_of HB3.out none) (fun r e => by cases e)).trans (keeps_row hg4.out (own_cells HO3.out)))
    have hb4 : Below w.heap.size w w4 := (HI.out.below.trans (HB3.out.mono HI.out.below.size)).grown hg4.out HBS.out (fun k e => (World.ownsRow.lt HO3.out k e).1)
    have HB4 := Lib.hid hb4
    obtain ⟨a5, c5, hv5⟩ := ho4.out.form
    rw [List.length_append, List.length_singleton] at hv5
    subst hv5
    clear ho4 hg4 hne4 hcb4 hb4
    gi_wp2
    have hks : KeepsOthers W (w4.setCell ⟨gb, 0, none⟩ (.slice a5 (L.length + 1) c5)) := HK34.out.trans (KeepsOthers.setCell _ _ _)
    refine ⟨hks.from _, keeps_walks hks, ⟨⟨_, HCB4.out.set 0 _, ?_⟩, ?_⟩⟩
    · rw [HXS.out]
      exact HO4.out.but ((But.refl gb w4).setCell 0 _) (own_notCells HO4.out HCB4.out (by decide))
    · exact But.toBelow HB4.out ((But.refl gb w4).setCell 0 _) (Nat.le_of_eq HGB.out) HB4.out.size
  case done =>
    intro D xs W hD hS hI hK
    obtain ⟨v, hcb, hown⟩ := hI.ex
    obtain ⟨ao, c, rfl⟩ := hown.form
    have c0 := hcb.at 0
    simp only [List.getElem?_toArray, List.getElem?_cons_zero] at c0
    have hfin := hI.kept (grownBy_putObj' W D (.deferred none)) (fun r e => by cases e; exact ⟨Nat.le_trans HB1.out.size hD, _, hK, rfl⟩)
    obtain ⟨v', hcb', hown'⟩ := hfin.ex
    have hvv : v' = .slice ao (valsI xs).length c := by
      have h1 := hcb'.at 0
      have h2 : (W.putObj D (.deferred none)).cell? ⟨gb, 0, none⟩ = W.cell? ⟨gb, 0, none⟩ := World.cell?_of_block (World.putObj_heap_other (fun e => by
        have e : gb = D := e
        rw [← e] at hK
        rw [show W.heap[gb]? = _ from hcb] at hK
        cases hK))
      rw [h2, c0] at h1
      simp only [List.getElem?_toArray, List.getElem?_cons_zero] at h1
      exact (Option.some.inj h1).symm
    have HF := Lib.hid (And.intro hS (And.intro (hvv ▸ hown') hfin.below))
    have HK := Lib.hid hK
    clear hcb hown hI hfin hcb' hown' hvv hK hS
    go_wp2_with fail
    refine ⟨by simp, .inl ⟨_, _, rfl, run_takeDeferred HK.out, ?_⟩⟩
    refine ⟨_, results_tmp rfl _ _ _, ?_⟩
    exact ⟨_, xs, rfl, HF.out.1, HF.out.2.1, HF.out.2.2⟩
  case stop =>
    rintro D c pre W hD hp h
    exact h.elim
theorem collect_any (g : Nat) (lb : Array Value) (eg : ∀ args w, (callFunc g args).run Tryz.prog w = .ok (.enter g args) w) (S Sp : List NId → Prop) (N : Nat) (hN : N ≤ 100000) (w : World)
    (hseq : SeqStopsK Fence.wide 2 Tryz.prog g lb (fun x : NId => #[.agg (nums .u8 x.val).toArray]) KeepsWalks S Sp N w) :
    Calls Tryz.prog 72 #[.func (.func g) #[] lb] w fun e w' => ∃ v ss, e = .returned v ∧ S ss ∧ OwnI w.heap.size 25 v (valsI ss) w' ∧ Below w.heap.size w w' := by
  have HA := Lib.hid (appendSeq_any g lb eg S Sp N hN w hseq)
  clear hseq eg
  go_enter Tryz.func72, Tryz.ntmps72
  go_wp2_with (refine HA.out.mono ?_; rintro e w2 ⟨v, ss, rfl, h1, h2, h3⟩)
  go_ret
  exact ⟨v, ss, rfl, h1, h2, h3⟩
end Go.Proofs.YtandadfphlandaaGreatDoor
namespace Go.Proofs.YtandadfphlandaaGreatDoor
open Go.RowKit Go.BigFrame Go.Sort Go.Shelf
shelf_lay_g SlLaysF0.n6 Slsf 6 at Tryz 73 as Tryz.sortIds
theorem grow_of {w w' : World} (h : RowKit.Below w.heap.size w w') (hd : w.drawn ≤ w'.drawn) : ∃ q os, w' = grow (w.drewN q) os := by
  refine ⟨w'.drawn - w.drawn, w'.heap.extract w.heap.size w'.heap.size, ?_⟩
  have hh : w'.heap = w.heap ++ w'.heap.extract w.heap.size w'.heap.size := by
    refine Array.ext_getElem? fun i => ?_
    by_cases hi : i < w.heap.size
    · rw [h.block i hi, Array.getElem?_append_left hi]
    · rw [Array.getElem?_append_right (by omega), Array.getElem?_extract]
      split
      · congr 1; omega
      · rw [Array.getElem?_eq_none (by omega)]
  obtain ⟨h1, h2, h3, h4, h5⟩ := h
  unfold grow World.drewN
  cases w
  cases w'
  simp only at h1 h2 h3 hh hd ⊢
  subst h1 h2 h3
  simp only [World.mk.injEq, true_and, and_true]
  exact ⟨hh, by omega⟩
structure Onw (w w' : World) : Prop where
  below : RowKit.Below w.heap.size w w'
  drawn : w.drawn ≤ w'.drawn
set_option maxHeartbeats 2000000 in
set_option maxRecDepth 100000 in
theorem dev_compare_x (a b : List Nat) (ha : IdOk a) (hb : IdOk b) (w : World) :
    Calls Tryz.prog 59 #[.agg (nums .u8 a).toArray, .agg (nums .u8 b).toArray] w fun e w' => e = .returned (.int .i64 (cmpN a b)) ∧ ∃ q os, w' = grow (w.drewN q) os := by
  have b1 : RowKit.Below w.heap.size w (w.alloc (.cells (nums .u8 a).toArray 25)) := (RowKit.Below.refl _ _).alloc (Nat.le_refl _) _
  have x1 : Blk w.heap.size 25 .u8 a (w.alloc (.cells (nums .u8 a).toArray 25)) := heap_alloc_new w _
  have s1 : (w.alloc (.cells (nums .u8 a).toArray 25)).heap.size = w.heap.size + 1 := World.size_alloc _ _
  have b2 : RowKit.Below (w.alloc (.cells (nums .u8 a).toArray 25)).heap.size (w.alloc (.cells (nums .u8 a).toArray 25)) ((w.alloc (.cells (nums .u8 a).toArray 25)).alloc (.cells (nums .u8 b).toArray 25)) := (RowKit.Below.refl _ _).alloc (Nat.le_refl _) _
  have x2 : Blk (w.alloc (.cells (nums .u8 a).toArray 25)).heap.size 25 .u8 b ((w.alloc (.cells (nums .u8 a).toArray 25)).alloc (.cells (nums .u8 b).toArray 25)) := heap_alloc_new _ _
  rw [s1] at x2
  have HX1 := Lib.hid (x1.below b2)
  have HX2 := Lib.hid x2
  have HB := Lib.hid (b1.trans (b2.mono b1.size))
  have HD := Lib.hid (show w.drawn = ((w.alloc (.cells (nums .u8 a).toArray 25)).alloc (.cells (nums .u8 b).toArray 25)).drawn from rfl)
  have HA := Lib.hid ha
  have HBB := Lib.hid hb
  clear b1 x1 s1 b2 x2 ha hb
  go_enter Tryz.func59, Tryz.ntmps59
  go_upto_region 1 with (fail)
  obtain ⟨w2, hw2⟩ : ∃ x, x = ((w.alloc (.cells (nums .u8 a).toArray 25)).alloc (.cells (nums .u8 b).toArray 25)) := ⟨_, rfl⟩
  rw [← hw2] at HX1 HX2 HB HD ⊢
  clear hw2
  have HC := Lib.hid (fun w' c d (q : RowKit.Below w2.heap.size w2 w') => bytes_compare w.heap.size (w.heap.size + 1) c d _ _ a b HA.out HBB.out w' (HX1.out.below q) (HX2.out.below q))
  refine wp_region_class (Onw w2) (by kernel_rfl) (by kernel_rfl) ⟨(RowKit.Below.refl _ _).drew, Nat.le_succ _⟩ ?_
  repeat (first
    | go_big_quiet_skip
    | go_big_quiet_step ((intro hs'; first
        | (go_at_call 75; exact (HC.out _ _ _ hs'.below).mono fun e w' h => ⟨h.1, h.2 ▸ hs'⟩)
        | rfl)))
  refine wpQuiet_nil ?_
  intro w4 hb4
  have HF := Lib.hid (grow_of (HB.out.trans (hb4.below.mono HB.out.size)) (by have := HD.out; have := hb4.drawn; omega))
  clear hb4
  go_wp2_with fail
  go_ret
  exact ⟨rfl, HF.out⟩
end Go.Proofs.YtandadfphlandaaGreatDoor
namespace Go.Proofs.YtandadfphlandaaGreatDoor
open Go.RowKit Go.BigFrame Go.Sort Go.Shelf
instance : Inhabited NId := ⟨⟨List.replicate 32 0, by simp, fun x hx => by rw [(List.mem_replicate.1 hx).2]; decide⟩⟩
def encI (x : NId) : List Value := nums .u8 x.val
def cfI (x y : NId) : Int := cmpN x.val y.val
theorem encI_len (x : NId) : (encI x).length = 32 := by rw [encI, nums_len, x.ok.1]
theorem ltI (x y : NId) : ltOf cfI x y = true ↔ cmpN x.val y.val = -1 := by
  unfold ltOf cfI
  rw [decide_eq_true_iff]
  rcases cmpN_vals x.val y.val with h | h | h <;> rw [h] <;> decide
theorem leI (x y : NId) : ltOf cfI x y = false ↔ x.val = y.val ∨ cmpN y.val x.val = -1 := by
  rw [← Bool.not_eq_true, ltI]
  constructor
  · intro h
    by_cases he : x.val = y.val
    · exact .inl he
    · rcases cmpN_total (by rw [x.ok.1, y.ok.1]) he with h1 | h1
      · exact absurd h1 h
      · exact .inr h1
  · rintro (h | h) h2
    · rw [h, cmpN_self] at h2; cases h2
    · exact cmpN_asym h h2
theorem swoI : SWO (ltOf cfI) where
  irrefl x := (leI x x).2 (.inl rfl)
  trans x y z h1 h2 := (ltI x z).2 (cmpN_trans ((ltI x y).1 h1) ((ltI y z).1 h2))
  ntrans x y z h1 h2 := by
    refine (leI x z).2 ?_
    rcases (leI x y).1 h1 with e1 | e1
    · rcases (leI y z).1 h2 with e2 | e2
      · exact .inl (e1.trans e2)
      · exact .inr (by rw [e1]; exact e2)
    · rcases (leI y z).1 h2 with e2 | e2
      · exact .inr (by rw [← e2]; exact e1)
      · exact .inr (cmpN_trans e2 e1)
theorem flatK_ids (d : Array NId) : (flatK encI 32 d).toList = flatI (valsI d.toList) := by
  have hI : Ids (valsI d.toList) := fun x hx => by
    obtain ⟨y, _, rfl⟩ := List.mem_map.1 hx
    exact y.ok
  have hl := flatI_len hI
  rw [valsI_len] at hl
  refine List.ext_getElem? fun t => ?_
  by_cases ht : t < d.size * 32
  · have h1 := get_flatK encI 32 d t ht
    have hq : t / 32 < d.size := by omega
    have hs : (flatK encI 32 d).size = d.size * 32 := size_flatK _ _ _
    rw [getElem!_pos _ t (by rw [hs]; exact ht)] at h1
    rw [Array.getElem?_toList, Array.getElem?_eq_getElem (by rw [hs]; exact ht), h1]
    have h2 := flatI_get hI (i := t / 32) (j := t % 32) (by rw [valsI_len]; exact hq) (Nat.mod_lt _ (by decide))
    rw [show 32 * (t / 32) + t % 32 = t by omega] at h2
    rw [h2]
    have h3 : (valsI d.toList).getD (t / 32) [] = (d[t / 32]!).val := by
      rw [getElem!_pos d _ hq, valsI, List.getD_eq_getElem?_getD, List.getElem?_map, Array.getElem?_toList, Array.getElem?_eq_getElem hq]
      rfl
    rw [h3]
    have h4 : t % 32 < (nums .u8 (d[t / 32]!).val).length := by rw [nums_len, (d[t / 32]!).ok.1]; exact Nat.mod_lt _ (by decide)
    rw [List.getElem?_eq_getElem h4]
    show some ((nums .u8 (d[t / 32]!).val)[t % 32]!) = _
    rw [getElem!_pos (nums .u8 (d[t / 32]!).val) (t % 32) h4]
  · rw [List.getElem?_eq_none (by rw [Array.length_toList, size_flatK]; omega), List.getElem?_eq_none (by rw [hl, Array.length_toList]; omega)]
theorem heap_sortedK {w : World} {g n : Nat} {os : Array Obj} {cur : Array Value} {e : TypeId} {fr : Nat × Nat} (d : Array NId) (hb : w.heap[g]? = some (.cells cur e fr)) :
    (sortWorldK encI 32 w g 0 n d os).heap[g]? = some (.cells (putCells id 0 (flatK encI 32 d) cur) e fr) := by
  have hg : g < w.heap.size := (Array.getElem?_eq_some_iff.1 hb).1
  unfold sortWorldK putRowK
  rw [heap_grow_old _ _ (by simp [putRow, mapBlock, Sort.ahead]; exact hg)]
  simp [putRow, mapBlock, Sort.ahead, Array.getElem?_modify, hb, onCells]
theorem grownBy_sortedK {w : World} {g n : Nat} {os : Array Obj} (d : Array NId) : w.grownBy (sortWorldK encI 32 w g 0 n d os) (some g) := by
  unfold sortWorldK putRowK
  refine ⟨rfl, rfl, rfl, by simp [grow, putRow, mapBlock, Sort.ahead], fun k hk hne => ?_⟩
  rw [heap_grow_old _ _ (by simp [putRow, mapBlock, Sort.ahead]; exact hk)]
  have : g ≠ k := fun e => hne (by rw [e])
  simp [putRow, mapBlock, Sort.ahead, Array.getElem?_modify, this]
theorem take_putCellsV (cur F : Array Value) (h : F.size ≤ cur.size) : (putCells id 0 F cur).toList.take F.size = F.toList := by
  apply List.ext_getElem?
  intro j
  by_cases hj : j < F.size
  · rw [List.getElem?_take_of_lt hj, Array.getElem?_toList]
    simp [putCells, hj, show j < cur.size by omega]
  · rw [List.getElem?_take_eq_none (by omega), List.getElem?_eq_none (by simp; omega)]
theorem OwnI.sorted {B g c n q : Nat} {ss ts : List NId} {w : World} {os : Array Obj} (h : OwnI B 25 (.slice (some ⟨g, 0, none⟩) n c) (valsI ss) w) (hl : ts.length = ss.length) :
    OwnI B 25 (.slice (some ⟨g, 0, none⟩) n c) (valsI ts) (sortWorldK encI 32 w g 0 q ts.toArray os) := by
  have hn := h.form
  obtain ⟨ao, c', hv⟩ := hn
  injection hv with _ hn' _
  rcases h.2 with ⟨h0, _⟩ | ⟨g', cap, cur, h0, hB, hh, h1, h2, h3, h4⟩
  · cases h0
  · injection h0 with h5 h6 h7
    injection h5 with h5
    injection h5 with h5 _ _
    subst h5 h7
    have hs : (flatK encI 32 ts.toArray).size = ts.length * 32 := by rw [size_flatK, List.size_toArray]
    refine ⟨?_, .inr ⟨g, c, _, ?_, hB, heap_sortedK _ hh, ?_, h2, by simp [putCells, h3], ?_⟩⟩
    · rw [flatI_len (fun x hx => by obtain ⟨y, _, rfl⟩ := List.mem_map.1 hx; exact y.ok)]
    · rw [valsI_len, hl, ← valsI_len, ← hn']
    · rw [valsI_len, hl, ← valsI_len]; exact h1
    · have h5 := take_putCellsV cur (flatK encI 32 ts.toArray) (by rw [hs, hl, ← valsI_len, h3]; exact Nat.mul_le_mul_right 32 h1)
      rw [hs, flatK_ids] at h5
      rw [valsI_len]
      exact h5
theorem OwnI.holds {B g c n : Nat} {ss : List NId} {w : World} (h : OwnI B 25 (.slice (some ⟨g, 0, none⟩) n c) (valsI ss) w) : HoldsK encI 32 w g 0 ss.toArray := by
  obtain ⟨ao, c', hv⟩ := h.form
  injection hv with _ hn' _
  rcases h.2 with ⟨h0, _⟩ | ⟨g', cap, cur, h0, hB, hh, h1, h2, h3, h4⟩
  · cases h0
  · injection h0 with h5 h6 h7
    injection h5 with h5
    injection h5 with h5 _ _
    subst h5 h7
    intro j hj
    rw [size_flatK, List.size_toArray] at hj
    refine ⟨?_, by simp [World.frozen?, hh]⟩
    have h5 : (cur.toList.take ((valsI ss).length * 32))[j]? = (flatI (valsI ss))[j]? := by rw [h4]
    rw [List.getElem?_take_of_lt (by rw [valsI_len]; exact hj)] at h5
    have h6 := flatK_ids ss.toArray
    rw [List.toList_toArray] at h6
    rw [← h6, Array.getElem?_toList, Array.getElem?_toList, Array.getElem?_eq_getElem (i := j) (xs := flatK encI 32 ss.toArray) (by rw [size_flatK, List.size_toArray]; exact hj)] at h5
    simp only [World.cell?, hh, Nat.zero_add, Option.isSome_none, Bool.false_eq_true, if_false]
    rw [h5, getElem!_pos (flatK encI 32 ss.toArray) j (by rw [size_flatK, List.size_toArray]; exact hj)]
    rfl
theorem sorted_rise {d d' : Array NId} (hp : PermIn 0 d.size d d') (hs : SortedIn (ltOf cfI) 0 d.size d') (hd : (valsI d.toList).Nodup) : d'.toList.Perm d.toList ∧ Rise (valsI d'.toList) := by
  obtain ⟨h1, _, h2⟩ := hp
  have hperm : d'.toList.Perm d.toList := by
    rw [← h1] at h2
    have e1 : d'.extract 0 d'.size = d' := by simp
    have e2 : d.extract 0 d'.size = d := by rw [h1]; simp
    rwa [e1, e2] at h2
  refine ⟨hperm, ?_⟩
  have hnd : (valsI d'.toList).Nodup := (hperm.map NId.val).nodup_iff.2 hd
  unfold Rise
  rw [List.pairwise_iff_getElem]
  intro i j hi hj hij
  rw [valsI_len, Array.length_toList] at hi hj
  have h3 := hs i j (Nat.zero_le _) hij (by omega)
  rw [getElem!_pos d' j hj, getElem!_pos d' i hi] at h3
  have hne := List.pairwise_iff_getElem.1 hnd i j (by rw [valsI_len, Array.length_toList]; exact hi) (by rw [valsI_len, Array.length_toList]; exact hj) hij
  simp only [valsI, List.getElem_map, Array.getElem_toList] at hne ⊢
  rcases (leI _ _).1 h3 with h4 | h4
  · exact absurd h4.symm hne
  · exact h4
set_option maxHeartbeats 1000000 in
theorem sort_ids {B g c : Nat} {ss : List NId} {w : World} (h : OwnI B 25 (.slice (some ⟨g, 0, none⟩) ss.length c) (valsI ss) w) (hn : ss.length ≤ 100000) (hd : (valsI ss).Nodup) (_hB : B ≤ g) :
    Calls Tryz.prog 73 #[.slice (some ⟨g, 0, none⟩) ss.length c, .func (.func 59) #[] #[]] w fun e w' => e = .returned (.tuple #[]) ∧ ∃ ts : List NId, (valsI ts).Perm (valsI ss) ∧ Rise (valsI ts) ∧ ts.length = ss.length ∧ OwnI B 25 (.slice (some ⟨g, 0, none⟩) ss.length c) (valsI ts) w' ∧ w.grownBy w' (some g) := by
  have hlt : g < w.heap.size := (World.ownsRow.lt h g rfl).2
  have hcon := AnyQ.slices_SortFunc Tryz.sortIds 32 (fun w => by show (isAgg 25).run Tryz.prog w = _; unfold isAgg; rw [Sem.run_bind, show (underlying 25).run Tryz.prog w = _ from run_underlying Tryz.underlying25 w]; rfl) (fun w => by obtain ⟨ie, hi, _, hz1, _⟩ := info_parts Tryz.infoI32; show (Go.sizeOf 25).run Tryz.prog w = _; simp [Go.sizeOf, typeInfo, hi, hz1]) encI encI_len (fun x v hv => nums_one _ _ v hv) cfI swoI 59 #[] g 0 c ss.toArray w (enters_of Tryz.func59 (by kernel_rfl) rfl)
    (fun m os dk _ x y => dev_compare_x x.val y.val x.ok y.ok _) h.holds hlt (by rw [List.size_toArray]; omega)
  rw [List.size_toArray] at hcon
  refine Calls.mono (f := 73) hcon ?_
  rintro e w' ⟨rfl, d', n, os, hp, hs, rfl⟩
  have hp' : PermIn 0 ss.toArray.size ss.toArray d' := by rw [List.size_toArray]; exact hp
  have hs' : SortedIn (ltOf cfI) 0 ss.toArray.size d' := by rw [List.size_toArray]; exact hs
  obtain ⟨h1, h2⟩ := sorted_rise hp' hs' hd
  have hl : d'.toList.length = ss.length := by rw [h1.length_eq]
  refine ⟨rfl, d'.toList, h1.map NId.val, h2, hl, ?_, grownBy_sortedK d'⟩
  have := h.sorted (q := n) (os := os) hl
  rwa [Array.toArray_toList] at this
end Go.Proofs.YtandadfphlandaaGreatDoor
namespace Go.Proofs.YtandadfphlandaaGreatDoor
open Go.RowKit Go.BigFrame
set_option maxHeartbeats 2000000 in
theorem sortedFunc_any (g : Nat) (lb : Array Value) (eg : ∀ args w, (callFunc g args).run Tryz.prog w = .ok (.enter g args) w) (K : List (List Nat)) (Sp : List NId → Prop) (hK : ∀ x ∈ K, x.length = 32) (hd : K.Nodup) (hn : K.length ≤ 100000) (w : World)
    (hseq : SeqStopsK Fence.wide 2 Tryz.prog g lb (fun x : NId => #[.agg (nums .u8 x.val).toArray]) KeepsWalks (fun xs => (valsI xs).Perm K) Sp K.length w) :
    Calls Tryz.prog 57 #[.func (.func g) #[] lb, .func (.func 59) #[] #[]] w fun e w' => ∃ v, e = .returned v ∧ OwnI w.heap.size 25 v (risingN K) w' ∧ Below w.heap.size w w' := by
  have HC := Lib.hid (collect_any g lb eg _ Sp K.length hn w hseq)
  have HKL := Lib.hid hK
  have HKD := Lib.hid hd
  have HKN := Lib.hid hn
  clear hseq eg hK hd hn
  go_enter Tryz.func57, Tryz.ntmps57
  go_wp2_with (refine HC.out.mono ?_; rintro e w2 ⟨v, ss, rfl, hp, ho, hb⟩)
  have hl : ss.length = K.length := by rw [← valsI_len, hp.length_eq]
  obtain ⟨ao, c, hv⟩ := ho.form
  rw [valsI_len] at hv
  subst hv
  have HP := Lib.hid hp
  have HB := Lib.hid hb
  have HO := Lib.hid ho
  have HL := Shut.mk hl
  clear hp hb hl
  cases ao with
  | none =>
    have h0 : ss.length = 0 ∧ c = 0 := by
      rcases ho.2 with ⟨h0, h1⟩ | ⟨g', cap, cur, h0, _⟩
      · injection h0 with _ h2 h3; exact ⟨h2, h3⟩
      · cases h0
    have hk0 : K = [] := List.length_eq_zero_iff.1 (by rw [← HL.out]; exact h0.1)
    have HK0 := Shut.mk hk0
    obtain ⟨n, hn⟩ : ∃ n, ss.length = n := ⟨_, rfl⟩
    rw [hn] at h0 ⊢
    obtain ⟨rfl, rfl⟩ := h0
    have HS := Lib.hid (AnyF.slices_SortFunc_none Tryz.sortIds none 0 (.func (.func 59) #[] #[]) w2)
    clear hk0 hn ho HO HP
    go_wp2_with (refine Calls.mono (f := 73) HS.out ?_; rintro e w3 ⟨rfl, rfl⟩)
    go_ret
    exact ⟨_, rfl, by rw [HK0.out]; exact OwnI.nil _ _ _, HB.out⟩
  | some a =>
    have ha : ∃ gg, a = ⟨gg, 0, none⟩ ∧ w.heap.size ≤ gg := by
      rcases ho.2 with ⟨h0, _⟩ | ⟨g', cap, cur, h0, h1, _⟩
      · cases h0
      · injection h0 with h0 _ _
        injection h0 with h0
        exact ⟨g', h0, h1⟩
    obtain ⟨gg, rfl, hgg⟩ := ha
    have HG := Lib.hid hgg
    have HS := Lib.hid (sort_ids HO.out (by rw [HL.out]; exact HKN.out) (HP.out.nodup_iff.2 HKD.out) hgg)
    clear ho hgg
    obtain ⟨n, hn⟩ : ∃ n, ss.length = n := ⟨_, rfl⟩
    rw [hn] at HS ⊢
    clear hn
    go_wp2_with (refine HS.out.mono ?_; rintro e w3 ⟨rfl, ts, hp3, hr3, hl3, ho3, hg3⟩)
    go_ret
    have he : valsI ts = risingN K := rising_of hr3 (hp3.trans HP.out) HKL.out HKD.out
    exact ⟨_, rfl, by rw [← he]; exact ho3, HB.out.grown hg3 HB.out.size (fun k e => by
      obtain rfl : gg = k := by injection e
      exact HG.out)⟩
set_option maxHeartbeats 2000000 in
theorem ascending_o (b : Nat) (L : List (List Nat × Value)) (w : World) (hM : MapN b L w) (hn : L.length ≤ 100000) :
    Calls Tryz.prog 44 #[.map (some b)] w fun e w' => ∃ v, e = .returned v ∧ OwnI w.heap.size 25 v (risingN (L.map (·.1))) w' ∧ Below w.heap.size w w' := by
  have HK := Lib.hid (keys_o b w)
  have HM := Lib.hid hM
  have HN := Lib.hid hn
  clear hM hn
  go_enter Tryz.func44, Tryz.ntmps44
  go_wp2_with (first
    | (refine HK.out.mono ?_; rintro e w2 ⟨rfl, hc, hz, hb⟩
       have HB := Lib.hid hb
       have HS := Lib.hid (sortedFunc_any _ _ (enters_of Tryz.func74 (by kernel_rfl) rfl) (L.map (·.1)) (fun pre => pre.length ≤ L.length) (fun x hx => by
         obtain ⟨p, hp, rfl⟩ := List.mem_map.1 hx
         exact (HM.out.ok p hp).1) HM.out.nodup (by rw [List.length_map]; exact HN.out) w2 (by rw [List.length_map]; exact keys_seq_o 2 w.heap.size b L w2 hc (HM.out.below hb)))
       clear hc hz hb)
    | (refine HS.out.mono ?_; rintro e w3 ⟨v, rfl, ho, hb3⟩))
  go_ret
  exact ⟨v, rfl, ho.mono HB.out.size, HB.out.trans (hb3.mono HB.out.size)⟩
set_option maxHeartbeats 2000000 in
theorem ascending_u (b : Nat) (L : List (List Nat × Value)) (w : World) (hM : MapN b L w) (hn : L.length ≤ 100000) :
    Calls Tryz.prog 45 #[.map (some b)] w fun e w' => ∃ v, e = .returned v ∧ OwnI w.heap.size 25 v (risingN (L.map (·.1))) w' ∧ Below w.heap.size w w' := by
  have HK := Lib.hid (keys_u b w)
  have HM := Lib.hid hM
  have HN := Lib.hid hn
  clear hM hn
  go_enter Tryz.func45, Tryz.ntmps45
  go_wp2_with (first
    | (refine HK.out.mono ?_; rintro e w2 ⟨rfl, hc, hz, hb⟩
       have HB := Lib.hid hb
       have HS := Lib.hid (sortedFunc_any _ _ (enters_of Tryz.func76 (by kernel_rfl) rfl) (L.map (·.1)) (fun pre => pre.length ≤ L.length) (fun x hx => by
         obtain ⟨p, hp, rfl⟩ := List.mem_map.1 hx
         exact (HM.out.ok p hp).1) HM.out.nodup (by rw [List.length_map]; exact HN.out) w2 (by rw [List.length_map]; exact keys_seq_u 2 w.heap.size b L w2 hc (HM.out.below hb)))
       clear hc hz hb)
    | (refine HS.out.mono ?_; rintro e w3 ⟨v, rfl, ho, hb3⟩))
  go_ret
  exact ⟨v, rfl, ho.mono HB.out.size, HB.out.trans (hb3.mono HB.out.size)⟩
end Go.Proofs.YtandadfphlandaaGreatDoor
