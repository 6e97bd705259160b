/-
  Joined: In a region whose order is open: an operation by its law for a list; operations that make memory one behind the other (a chain) among others that do not.; A slice of structs of K cells appended onto a row of one's own.; The developers' log: Part.; A row of names that was answered.; An operator whose answer is known, in a plain region.; The developers' Good of layer 15.; The developers' Text of layer 15.; The developers' Link, Word, AuthText of layer 16.; The developers' Sign.; The developers' log: Auth.; In a region whose order is open: a struct's block that one operation makes and another one stores into (PutC); a struct stored into a block that was there (Slot).; A value of a printed region of which only this is kept: what holds of it in every later world.; A region whose order is open, all of it by an invariant: no operation need come last.
-/
import Derived.Laws.AppendOwnNone
import Derived.Lib.SliceRun
import Derived.Test.YtpfhlhcnmeodbaaGreatDoorJ02
import Derived.Test.YtpfhlhcnmeodbaaGreatDoorJ05
import Derived.Test.YtpfhlhcnmeodbaaGreatDoorJ07
import Derived.Test.YtpfhlhcnmeodbaaGreatDoorJ08
import Derived.Test.YtpfhlhcnmeodbaaGreatDoorJ11
namespace Go.Proofs.YtpfhlhcnmeodbaaGreatDoor
open Go.RowKit
theorem op_of_list {P : Program} {ops : Array Oper} {o : Oper} {a : Act} {w : World} {K : Act → World → Prop} {Q : Exit → Act → World → Prop} (hg : o.guard = none)
    (h : wpList P ops (fun e a w => e = Exit.normal ∧ K a w) [o] a w) : OpWp P o a w K Q := by
  refine ⟨?_⟩
  unfold wpList at h
  simp only [Region.wanted, hg, if_true] at h
  rcases h with h | ⟨_, a', w', h, _⟩
  · unfold Oper.wp at *
    generalize (execOp a.eval o).run P w = r at *
    cases r with
    | ok n w' =>
      cases n <;> simp only [Oper.upon] at h ⊢ <;> first
        | exact h.2
        | exact Rows.mono h (fun _ _ he => he.2)
        | (refine Calls.mono h (fun e w'' he => ?_)
           cases e with
           | returned v => exact he.2
           | panicked c => cases he.1
           | outgrown =>
             obtain ⟨_, _, h0, _⟩ := he
             cases h0)
    | halt x w' =>
      cases x <;> simp only [Oper.upon] at h ⊢
      cases h.1
  · cases h
structure Chain (c : List Nat) (A : World → Prop) (M : Nat → Value → World → Prop) (s : Nat → Bool) (V : Nat → Value) (w : World) : Prop where
  always : A w
  now : ∃ m, m ≤ c.length ∧ (∀ p, p < c.length → s (c.getD p 0) = decide (p < m)) ∧ M m (V (c.getD (m - 1) 0)) w
section
variable {c : List Nat} {A : World → Prop} {M : Nat → Value → World → Prop} {s : Nat → Bool} {V : Nat → Value} {w w' : World}
theorem Chain.none (hA : A w) (hM : ∀ v, M 0 v w) : Chain c A M (fun _ => false) V w := ⟨hA, 0, Nat.zero_le _, fun _ _ => rfl, hM _⟩
theorem getD_ne {c : List Nat} {k p : Nat} (hc : k ∉ c) (hp : p < c.length) : c.getD p 0 ≠ k := fun h => hc (by
  rw [List.getD_eq_getElem?_getD, List.getElem?_eq_getElem hp] at h
  rw [← h]
  exact List.getElem_mem hp)
theorem Chain.ne {k : Nat} {v : Value} (h : Chain c A M s V w) (hc : k ∉ c) (h0 : 0 < c.length) : Chain c A M (fun n => s n || n == k) (upd V k v) w := by
  obtain ⟨hA, m, hm, hs, hM⟩ := h
  refine ⟨hA, m, hm, fun p hp => ?_, ?_⟩
  · have := getD_ne hc hp
    show (s (c.getD p 0) || c.getD p 0 == k) = _
    rw [← hs p hp, beq_false_of_ne this, Bool.or_false]
  · rw [upd_ne V v (getD_ne hc (by omega))]
    exact hM
theorem Chain.at (h : Chain c A M s V w) (p : Nat) (hp : p < c.length) (hu : s (c.getD p 0) = false) (hd : p = 0 ∨ s (c.getD (p - 1) 0) = true) : M p (V (c.getD (p - 1) 0)) w := by
  obtain ⟨_, m, hm, hs, hM⟩ := h
  have h1 := hs p hp
  rw [hu] at h1
  have h1 : ¬ p < m := of_decide_eq_false h1.symm
  have h2 : p ≤ m := by
    rcases hd with rfl | hd
    · exact Nat.zero_le _
    · have h3 := hs (p - 1) (by omega)
      rw [hd] at h3
      have := of_decide_eq_true h3.symm
      omega
  obtain rfl : m = p := by omega
  exact hM
theorem Chain.step {v : Value} (h : Chain c A M s V w) (p : Nat) (hp : p < c.length) (hn : ∀ q, q < c.length → q ≠ p → c.getD q 0 ≠ c.getD p 0) (hu : s (c.getD p 0) = false) (hd : p = 0 ∨ s (c.getD (p - 1) 0) = true) (hA : A w') (hM : M (p + 1) v w') :
    Chain c A M (fun n => s n || n == c.getD p 0) (upd V (c.getD p 0) v) w' := by
  obtain ⟨_, m, hm, hs, _⟩ := h
  have h1 := hs p hp
  rw [hu] at h1
  have h1 : ¬ p < m := of_decide_eq_false h1.symm
  have h2 : p ≤ m := by
    rcases hd with rfl | hd
    · exact Nat.zero_le _
    · have h3 := hs (p - 1) (by omega)
      rw [hd] at h3
      have := of_decide_eq_true h3.symm
      omega
  obtain rfl : m = p := by omega
  refine ⟨hA, m + 1, by omega, fun q hq => ?_, ?_⟩
  · show (s (c.getD q 0) || c.getD q 0 == c.getD m 0) = _
    rw [hs q hq]
    by_cases hqm : q = m
    · subst hqm
      simp
    · have hne : c.getD q 0 ≠ c.getD m 0 := hn q hq hqm
      have e1 : (c.getD q 0 == c.getD m 0) = false := beq_false_of_ne hne
      rw [e1, Bool.or_false]
      exact decide_eq_decide.2 (by omega)
  · rw [Nat.add_sub_cancel, upd_same]
    exact hM
theorem Chain.fin (h : Chain c A M s V w) (hall : ∀ p, p < c.length → s (c.getD p 0) = true) : M c.length (V (c.getD (c.length - 1) 0)) w := by
  obtain ⟨_, m, hm, hs, hM⟩ := h
  by_cases h0 : m < c.length
  · have := hs m h0
    rw [hall m h0] at this
    exact absurd (of_decide_eq_true this.symm) (by omega)
  · obtain rfl : m = c.length := by omega
    exact hM
end
end Go.Proofs.YtpfhlhcnmeodbaaGreatDoor
namespace Go.Proofs.YtpfhlhcnmeodbaaGreatDoor
open Go.RowKit Go.BigFrame
theorem rat_cells {K : Nat} (hK : 0 < K) {ad : Addr} {D : List (List Value)} {w : World} (h : RAt K (some ad) D w) (hD : Wide K D) : ∀ j u, D.flatten[j]? = some u → w.cell? (ad.add j) = some u := by
  intro j u hj
  rcases h with rfl | ⟨b, o, h1, h2, h3⟩
  · cases hj
  · cases h1
    have hlt := (List.getElem?_eq_some_iff.1 hj).1
    rw [flat_len hD] at hlt
    obtain ⟨q, m, rfl, hm⟩ : ∃ q m, j = K * q + m ∧ m < K := ⟨j / K, j % K, (Nat.div_add_mod j K).symm, Nat.mod_lt _ hK⟩
    have hq : q < D.length := by
      refine Classical.byContradiction fun hc => ?_
      have h4 : D.length * K ≤ K * q := by rw [Nat.mul_comm]; exact Nat.mul_le_mul_left K (by omega)
      omega
    rw [flat_get hD hq hm, List.getD_eq_getElem?_getD, List.getElem?_eq_getElem hq] at hj
    rw [Addr.add_mid, ← Nat.add_assoc, Nat.mul_comm K q]
    exact h3 q _ (List.getElem?_eq_getElem hq) m u hj
theorem wpList_append_rowsv {P : Program} {w : World} {ops : Array Oper} {rest : List Oper} {o : Oper} {a : Act} {Q : Exit → Act → World → Prop} (hgd : o.guard = none) (s x : Operand) (t e : TypeId)
    (ho : o.op = .call { callee := .builtin .append, args := #[s, x], argTypes := #[t, t] })
    (B K bytes : Nat) (z : Value) (hzs : z.cells.size = K) (hK : 0 < K) (hby : bytes ≤ 1024) (ht : P.underlying t = some (.slice e)) (hinfo : (P.info? e).map (fun i => (i.zero, i.size, i.bytes)) = some (some z, K, bytes))
    (v : Value) (C D : List (List Value)) (hD : Wide K D) (hu : ∀ y ∈ D.flatten, y.oneCell' = true) (ao : Option Addr) (n c : Nat) (hn : n = D.length) (hs : a.eval s = v) (hown : OwnR B K e v C w) (hx : a.eval x = .slice ao n c) (hsrc : RAt K ao D w) (hnil : ao = none → c = 0)
    (h63 : C.length + D.length ≤ 1000000) (hB : B ≤ w.heap.size)
    (h : ∀ v' w', Hid (OwnR B K e v' (C ++ D) w') → Hid (w.grownBy w' v.ownBlock) → Hid (v'.ownBlock = v.ownBlock ∨ v'.ownBlock = some w.heap.size) → wpList P ops Q rest (a.put o.dst v') w') : wpList P ops Q (o :: rest) a w := by
  obtain ⟨i, hi, hz0, hz1, hz2⟩ := info_parts hinfo
  cases ao with
  | none =>
    obtain rfl := hnil rfl
    have hm : D = [] := by
      rcases hsrc with h | ⟨b, o', h, _⟩
      · exact h
      · cases h
    subst hm
    subst hn
    refine wpList_append_own_none hgd s x _ ho B e i K ht hi v C.length C.flatten hs hown hx (h _ _ ?_ ⟨rfl, rfl, rfl, Nat.le_refl _, fun _ _ _ => rfl⟩ (.inl rfl))
    rw [List.append_nil]
    exact hown
  | some ad =>
    subst hn
    refine wpList_append_own_at w hgd s x _ ho B e i z K bytes ht hi hz0 hz1 hz2 hzs hK v C.length C.flatten hs hown ad D.length c D.flatten hx (flat_len hD) (rat_cells hK hsrc hD) hu (by unfold maxLen; omega) (Nat.le_trans (Nat.mul_le_mul h63 hby) (by decide)) hB ?_
    intro v' w' h2 hg _ h3
    refine h v' w' ?_ hg h3
    show w'.ownsRow B e K v' (C ++ D).length (C ++ D).flatten
    rw [List.length_append, List.flatten_append]
    exact h2
end Go.Proofs.YtpfhlhcnmeodbaaGreatDoor
namespace Go.Proofs.YtpfhlhcnmeodbaaGreatDoor
open Go.RowKit Go.BigFrame
theorem OwnE15.cap {B : Nat} {ao : Option Addr} {n c : Nat} {L : List EntN} {w : World} (h : OwnE15 B (.slice ao n c) L w) : L.length ≤ c := by
  rcases h.1.2 with ⟨h1, h2⟩ | ⟨g, cap, cur, h1, h2, h3, h4, _⟩
  · rw [List.length_map] at h2
    omega
  · simp only [Value.slice.injEq] at h1
    obtain ⟨_, _, rfl⟩ := h1
    rw [List.length_map] at h4
    exact h4
theorem slice_ents_mid (ap : Option Addr) (n c j m : Nat) (hj : j ≤ m) (hm : m ≤ n) (hc : n ≤ c) (w : World) : (Instr.sliceAt 35 (.slice ap n c) (some (.int .i64 (j : Int))) (some (.int .i64 (m : Int))) none).run Tryz.prog w = .ok (.slice (if c = j then ap else ap.map (·.add (j * 73))) (m - j) (c - j)) w := by
  have h1 : j ≤ c := by omega
  have h2 : m ≤ c := by omega
  go_simp
theorem wpList_slice_mid16 {P : Program} {ops : Array Oper} {rest : List Oper} {o : Oper} {a : Act} {w : World} {Q : Exit → Act → World → Prop} (hgd : o.guard = none) (t : TypeId) (x y z : Operand) (ho : o.op = .slice t x (some y) (some z) none) (vx vy vz r : Value) (hx : a.eval x = vx) (hy : a.eval y = vy) (hz : a.eval z = vz)
    (hr : ∀ w, (Instr.sliceAt t vx (some vy) (some vz) none).run P w = .ok r w) (h : wpList P ops Q rest (a.put o.dst r) w) : wpList P ops Q (o :: rest) a w := by
  refine wpList_plain hgd fun K hK => ?_
  unfold Oper.wp execOp
  simp only [ho, Option.map_some, Option.map_none, hx, hy, hz, Sem.run_bind, hr w, Result.andThen_ok, Sem.run_pure]
  exact hK _ _ h
theorem flat_one {D : List EntN} : ∀ y ∈ (D.map entL).flatten, y.oneCell' = true := fun y hy => by
  obtain ⟨c, hc, hy⟩ := List.mem_flatten.1 hy
  obtain ⟨e, _, rfl⟩ := List.mem_map.1 hc
  exact entL_one e y hy
set_option maxHeartbeats 4000000 in
set_option maxRecDepth 100000 in
theorem clone_ents (L : List EntN) (pa : Option Addr) (n pc : Nat) (w : World) (hL : ∀ x ∈ L, x.Ok) (hp : EntsAt pa L w) (hn : n = L.length) (h63 : n ≤ 1000000) :
    Calls Tryz.prog 35 #[.slice pa n pc] w fun e w' => (∃ u, e = .returned u ∧ OwnE15 w.heap.size u L w') ∧ Below w.heap.size w w' := by
  cases pa with
  | none =>
    have hL0 : L = [] := by
      rcases hp with h | ⟨b, o, h, _⟩
      · simpa using h
      · cases h
    subst hL0
    obtain rfl : n = 0 := hn
    clear hp hL
    have q34 : ∀ (w : World) (a : Option Addr) (n c n' c' : Nat), (binOp .eql 35 (.slice a n c) (.slice none n' c')).run Tryz.prog w = .ok (.bool a.isNone) w := fun w a n c n' c' => Lib.run_eql_slice_nil w _ _ a n c n' c' rfl
    go_enter Tryz.func35, Tryz.ntmps35
    go_wp2_with fail
    go_ret
    exact ⟨⟨_, rfl, OwnE15.nil _ _⟩, Below.refl _ _⟩
  | some ad =>
    have HL := Lib.hid hL
    have HP := Lib.hid hp
    have HN := Lib.hid hn
    obtain ⟨bytes, hby, hinfo⟩ := Tryz.infoE73
    have HBY := Lib.hid hby
    have HIN := Lib.hid hinfo
    clear hL hp hn hby hinfo
    have q34 : ∀ (w : World) (a : Option Addr) (n c n' c' : Nat), (binOp .eql 35 (.slice a n c) (.slice none n' c')).run Tryz.prog w = .ok (.bool a.isNone) w := fun w a n c n' c' => Lib.run_eql_slice_nil w _ _ a n c n' c' rfl
    go_enter Tryz.func35, Tryz.ntmps35
    have b1 : Below w.heap.size w (w.alloc (.cells #[] 54)) := (Below.refl _ _).alloc (Nat.le_refl _) _
    have o1 : OwnR w.heap.size 73 54 (.slice (some ⟨w.heap.size, 0, none⟩) 0 0) [] (w.alloc (.cells #[] 54)) := World.ownsRow_lit w #[] 0 (Nat.le_refl _) (by unfold maxLen; omega) rfl
    have HO := Lib.hid o1
    have HPA := Lib.hid (HP.out.below b1)
    have HB := Lib.hid b1
    have HSZ := Lib.hid (show w.heap.size ≤ (w.alloc (.cells #[] 54)).heap.size by rw [World.size_alloc]; exact Nat.le_succ _)
    clear b1 o1
    go_wp2_with (refine wpList_append_rowsv rfl _ _ 35 54 rfl w.heap.size 73 bytes _ rfl (by decide) HBY.out Tryz.underlying35 HIN.out (.slice (some ⟨w.heap.size, 0, none⟩) 0 0) [] (L.map entL) (wide_map fun x hx => entL_len (HL.out x hx)) flat_one (some ad) n pc (by rw [List.length_map]; exact HN.out) rfl HO.out rfl HPA.out (fun h => by cases h) (by rw [List.length_map, ← HN.out, List.length_nil]; omega) HSZ.out ?_)
    intro v' w' ho hg hd
    have hb' : Below w.heap.size w w' := HB.out.grown hg.out HB.out.size (fun g hg => by
      obtain rfl : w.heap.size = g := by injection hg
      exact Nat.le_refl _)
    have HF := Lib.hid (And.intro (show OwnE15 w.heap.size v' L w' from ⟨ho.out, HL.out⟩) hb')
    clear hb' ho hg hd
    go_wp2_with fail
    go_ret
    exact ⟨⟨_, rfl, HF.out.1⟩, HF.out.2⟩
def partL (L : List EntN) (q t : Int) : List EntN := if 1 ≤ q ∧ q ≤ t ∧ t ≤ L.length then (L.drop (q - 1).toNat).take (t - q + 1).toNat else []
set_option maxHeartbeats 4000000 in
set_option maxRecDepth 100000 in
theorem dev_part {N : Nat} {O : Nat → Prop} {v : Value} {nd : Int} {seed : List UInt8} {h : Nat} {L : List EntN} (q t : Int) (w : World) (l : LogIs N O v nd seed h L w) (hm : L.length ≤ 1000000) :
    Calls Tryz.prog 18 #[v, .int .i64 q, .int .i64 t] w fun r w' => (∃ u, r = .returned u ∧ OwnE15 w.heap.size u (partL L q t) w') ∧ Below w.heap.size w w' := by
  have HQ := Lib.hid (dev_has q w l)
  have HT := Lib.hid (fun w' (b : Below w.heap.size w w') => dev_has t w' (l.below b))
  obtain ⟨b, kv, vL, vH, rfl, -, la⟩ := l
  have HEO := Lib.hid la.ents.2
  obtain ⟨ao, cap, rfl⟩ := la.ents.form
  have HAT := Lib.hid la.ents.at
  have HCA := Lib.hid la.ents.cap
  have HC2 := Lib.hid la.fields.2.2.1
  have HBL := Lib.hid la.cells.lt
  obtain ⟨n, hn⟩ : ∃ n, L.length = n := ⟨_, rfl⟩
  have HN := Shut.mk hn
  have HPE := Shut.mk (show partL L q t = if 1 ≤ q ∧ q ≤ t ∧ t ≤ (n : Int) then (L.drop (q - 1).toNat).take (t - q + 1).toNat else [] by rw [partL, hn])
  rw [hn] at HQ HT HC2 HCA hm
  have HNM := Lib.hid hm
  clear la hn hm
  obtain ⟨gq, hgq⟩ : ∃ x, decide (1 ≤ q ∧ q ≤ (n : Int)) = x := ⟨_, rfl⟩
  obtain ⟨gt, hgt⟩ : ∃ x, decide (1 ≤ t ∧ t ≤ (n : Int)) = x := ⟨_, rfl⟩
  rw [hgq] at HQ
  rw [hgt] at HT
  have HGQ := Shut.mk hgq
  have HGT := Shut.mk hgt
  clear hgq hgt
  go_enter Tryz.func18, Tryz.ntmps18
  go_wp2_with fail
  refine HQ.out.mono ?_
  rintro e w1 ⟨rfl, hb⟩
  have HB1 := Lib.hid hb
  clear hb HQ
  cases gq with
  | false =>
    have HZ := Shut.mk (show partL L q t = [] by rw [HPE.out, if_neg (fun h => (of_decide_eq_false HGQ.out) ⟨h.1, Int.le_trans h.2.1 h.2.2⟩)])
    go_wp2_with fail
    go_ret
    exact ⟨⟨_, rfl, by rw [HZ.out]; exact OwnE15.nil _ _⟩, HB1.out⟩
  | true =>
  go_wp2_with fail
  refine (HT.out w1 HB1.out).mono ?_
  rintro e w2 ⟨rfl, hb⟩
  have HB2 := Lib.hid (HB1.out.trans (hb.mono HB1.out.size))
  clear hb HT HB1
  cases gt with
  | false =>
    have HZ := Shut.mk (show partL L q t = [] by
      have h1 := of_decide_eq_true HGQ.out
      have h2 := of_decide_eq_false HGT.out
      rw [HPE.out, if_neg (by omega)])
    go_wp2_with fail
    go_ret
    exact ⟨⟨_, rfl, by rw [HZ.out]; exact OwnE15.nil _ _⟩, HB2.out⟩
  | true =>
  by_cases hqt : t < q
  · have HZ := Shut.mk (show partL L q t = [] by rw [HPE.out, if_neg (by omega)])
    go_wp2_with fail
    go_ret
    exact ⟨⟨_, rfl, by rw [HZ.out]; exact OwnE15.nil _ _⟩, HB2.out⟩
  · obtain ⟨k, hk⟩ : ∃ k : Nat, q - 1 = (k : Int) := ⟨(q - 1).toNat, by have h1 := of_decide_eq_true HGQ.out; omega⟩
    obtain ⟨m, rfl⟩ : ∃ m : Nat, t = (m : Int) := ⟨t.toNat, by have h1 := of_decide_eq_true HGT.out; omega⟩
    have h1 := of_decide_eq_true HGQ.out
    have h2 := of_decide_eq_true HGT.out
    have HZ := Shut.mk (show partL L q m = (L.drop k).take (m - k) by
      rw [HPE.out, if_pos (by omega), hk, Int.toNat_natCast, show ((m : Int) - q + 1).toNat = m - k by omega])
    have HSB := Lib.hid (slice_ents_mid ao n cap k m (by omega) (by omega) (by rw [← HN.out]; rw [HN.out]; exact HCA.out))
    obtain ⟨ro, hro⟩ : ∃ r, (if cap = k then ao else ao.map (·.add (k * 73))) = r := ⟨_, rfl⟩
    have HAS := Lib.hid (show EntsAt ro ((L.drop k).take (m - k)) w from by
      have h := RAt.take (RAt.drop (c := cap) (j := k) HAT.out (by rw [List.length_map, HN.out]; exact HCA.out)) (m - k)
      rw [← List.map_drop, ← List.map_take, hro] at h
      exact h)
    rw [hro] at HSB
    have HCL := Lib.hid (clone_ents ((L.drop k).take (m - k)) ro (m - k) (cap - k) w2 (fun x hx => HEO.out x (List.mem_of_mem_drop (List.mem_of_mem_take hx))) (HAS.out.below HB2.out) (by rw [List.length_take, List.length_drop, HN.out]; omega) (by have := HNM.out; omega))
    have c2 := (HB2.out.cell (p := ⟨b, 2, none⟩) HBL.out).trans HC2.out
    have hkb : k ≤ 1000000 := by have := HNM.out; omega
    clear hro h1 h2
    go_wp2_with (refine wpList_slice_mid16 rfl 35 _ _ _ rfl _ _ _ _ rfl rfl rfl HSB.out ?_)
    refine HCL.out.mono ?_
    rintro e w3 ⟨⟨u, rfl, ho⟩, hb⟩
    have HO := Lib.hid (ho.mono HB2.out.size)
    have HB3 := Lib.hid (HB2.out.trans (hb.mono HB2.out.size))
    clear ho hb
    go_wp2_with fail
    go_ret
    exact ⟨⟨_, rfl, by rw [HZ.out]; exact HO.out⟩, HB3.out⟩
theorem dev_part_nil (w : World) : Calls Tryz.prog 18 #[.pointer none, .int .i64 1, .int .i64 1] w fun r w' => (∃ a c, r = .returned (.slice a 0 c)) ∧ Below w.heap.size w w' := by
  have HH := Lib.hid (fun w' => dev_has_nil 1 w' (by decide))
  go_enter Tryz.func18, Tryz.ntmps18
  go_wp2_with fail
  refine (HH.out w).mono ?_
  rintro e w1 ⟨rfl, hb⟩
  have HB := Lib.hid hb
  clear hb
  go_wp2_with fail
  go_ret
  exact ⟨⟨_, _, rfl⟩, HB.out⟩
end Go.Proofs.YtpfhlhcnmeodbaaGreatDoor
namespace Go.Proofs.YtpfhlhcnmeodbaaGreatDoor
open Go.RowKit Go.BigFrame
def RowI (B : Nat) (L : List (List Nat)) (e : Ending) (w' : World) : Prop := ∃ v, e = .returned v ∧ OwnI B 43 v L w'
end Go.Proofs.YtpfhlhcnmeodbaaGreatDoor
namespace Go.Proofs.YtpfhlhcnmeodbaaGreatDoor
open Go.RowKit Go.BigFrame
theorem wpList_bin {P : Program} {ops : Array Oper} {rest : List Oper} {o : Oper} {a : Act} {w : World} {Q : Exit → Act → World → Prop} (hg0 : o.guard = none) (op : BinOp) (t u : TypeId) (x y : Operand) (ho : o.op = .binOp op t x y u) (vx vy r : Value) (hx : a.eval x = vx) (hy : a.eval y = vy)
    (hg : ∀ w, (eqGuard op t x y vx vy).run P w = .ok () w) (hr : ∀ w, (binOp op t vx vy).run P w = .ok r w) (hk : wpList P ops Q rest (a.put o.dst r) w) : wpList P ops Q (o :: rest) a w :=
  wpList_plain hg0 fun _ hK => (op_bin op t u x y ho vx vy r hx hy hg hr (hK _ _ hk)).out
theorem wpList_bin_want {P : Program} {ops : Array Oper} {rest : List Oper} {o : Oper} {a : Act} {w : World} {Q : Exit → Act → World → Prop} (hw : Region.wanted o (yielded ops a.tmps) = true) (op : BinOp) (t u : TypeId) (x y : Operand) (ho : o.op = .binOp op t x y u) (vx vy r : Value) (hx : a.eval x = vx) (hy : a.eval y = vy)
    (hg : ∀ w, (eqGuard op t x y vx vy).run P w = .ok () w) (hr : ∀ w, (binOp op t vx vy).run P w = .ok r w) (hk : wpList P ops Q rest (a.put o.dst r) w) : wpList P ops Q (o :: rest) a w :=
  BigFrame.wpList_want hw fun _ hK => (show OpWp P { o with guard := none } a w _ _ from op_bin (o := { o with guard := none }) op t u x y ho vx vy r hx hy hg hr (hK _ _ hk)).out
end Go.Proofs.YtpfhlhcnmeodbaaGreatDoor
namespace Go.Proofs.YtpfhlhcnmeodbaaGreatDoor
open Go.RowKit Go.BigFrame
def localE (d : DraftN) : EntN := ⟨1, d, 0, 0, zeroI, 0, [], []⟩
theorem localE_ok {d : DraftN} (h : IdOk d.ref) : (localE d).Ok := ⟨h, zeroI_ok⟩
theorem built_local (d : DraftN) (hd : IdOk d.ref) : Tryz.prog.built 54 [(0, .int .i64 1), (1, .agg (draftV d))] = some (entV (localE d)) := by
  rw [ent_fill, fill_kind, fill_draft _ _ ⟨zeroI_ok, zeroI_ok⟩ _ hd, fill_end]
  rfl
theorem results_cells {P : Program} {fn : Func} {p : Tmp} {ty : TypeId} (h : fn.results = #[.cell p ty]) (tmps : Array Value) (w : World) (g : Nat) (cs : Array Value) (t : TypeId) (d : TypeDesc)
    (hp : tmps.getD p undef = .pointer (some ⟨g, 0, none⟩)) (hg : Cells g t cs w)
    (hu : P.underlying ty = some d) (hd : (match d with | .struct _ | .array _ _ => true | _ => false) = true) (hi : (P.info? ty).map (·.size) = some cs.size) :
    (results fn tmps).run P w = .ok (.agg cs) w :=
  results_cell_row h tmps w g t _ (0, 0) d hp hg hu hd hi
theorem goodE1 {e : EntN} (h : e.kind = 1) : GoodE e ↔ e = localE e.d ∧ GoodD e.d := by
  obtain ⟨k, d, f, q, p, m, y, s⟩ := e
  simp only at h
  subst h
  simp only [GoodE, BareE, localE, EntN.mk.injEq, true_and]
  constructor
  · rintro (⟨a, ⟨b1, b2, b3, b4⟩, c, e⟩ | ⟨h, _⟩ | ⟨h, _⟩)
    · exact ⟨⟨b1, b2, b3, c, e, b4⟩, a⟩
    · cases h
    · cases h
  · rintro ⟨⟨b1, b2, b3, c, e, b4⟩, a⟩
    exact .inl ⟨a, ⟨b1, b2, b3, b4⟩, c, e⟩
def OrigE (e : EntN) : Prop := 0 ≤ e.src ∧ e.src ≤ 4 ∧ 1 ≤ e.seq
instance (e : EntN) : Decidable (OrigE e) := by unfold OrigE; infer_instance
theorem goodE2 {e : EntN} (h : e.kind = 2) : GoodE e ↔ e.d = noD ∧ OrigE e ∧ OutE e ∧ e.sig.length ≤ 1024 := by
  rw [GoodE, OrigE]
  constructor
  · rintro (⟨a, _⟩ | ⟨_, a, b, c, d, f, g⟩ | ⟨a, _⟩)
    · omega
    · exact ⟨b, ⟨c, d, f⟩, a, g⟩
    · omega
  · rintro ⟨b, ⟨c, d, f⟩, a, g⟩
    exact .inr (.inl ⟨h, a, b, c, d, f, g⟩)
theorem goodE3 {e : EntN} (h : e.kind = 3) : GoodE e ↔ e = outE e.mask e.pay ∧ OutE e := by
  obtain ⟨k, d, f, q, p, m, y, s⟩ := e
  simp only at h
  subst h
  simp only [GoodE, BareE, outE, EntN.mk.injEq, true_and]
  constructor
  · rintro (⟨h, _⟩ | ⟨h, _⟩ | ⟨a, b, c1, c2, c3, c4⟩)
    · cases h
    · cases h
    · exact ⟨⟨b, c1, c2, c3, c4⟩, a⟩
  · rintro ⟨⟨b, c1, c2, c3, c4⟩, a⟩
    exact .inr (.inr ⟨a, b, c1, c2, c3, c4⟩)
theorem goodE0 {e : EntN} (h1 : e.kind ≠ 1) (h2 : e.kind ≠ 2) (h3 : e.kind ≠ 3) : ¬ GoodE e := by
  rintro (h | h | h)
  · exact h1 h.1
  · exact h2 h.1
  · exact h3 h.1
set_option maxHeartbeats 4000000 in
set_option maxRecDepth 100000 in
theorem dev_local15 (d : DraftN) (hr : IdOk d.ref) (w : World) :
    Calls Tryz.prog 55 #[.agg (draftV d)] w fun r w' => r = .returned (.agg (entV (localE d))) ∧ Below w.heap.size w w' := by
  have HZE := Lib.hid (show (Tryz.prog.info? 54).bind (·.zero) = some (.agg (entL noE).toArray) by kernel_rfl)
  have HSD := Lib.hid (show (Tryz.prog.info? 52).map (·.size) = some (draftV d).size by rw [draftV_size hr.1]; exact Tryz.sizeD)
  have HSE := Lib.hid (sizeEV (localE_ok hr))
  have HBL := Lib.hid (built_local d hr)
  have HSZ := Lib.hid (show (entV noE).size = (entV (localE d)).size by rw [entV_size (localE_ok hr)]; rfl)
  have hx : Cells w.heap.size 52 (draftV d) (w.alloc (.cells (draftV d) 52)) := heap_alloc_new w _
  have hb : Below w.heap.size w (w.alloc (.cells (draftV d) 52)) := (Below.refl _ _).alloc (Nat.le_refl _) _
  have HX := Lib.hid hx
  have HB := Lib.hid hb
  clear hr hx hb
  go_enter Tryz.func55, Tryz.ntmps55
  go_upto_region 1 with (first | (refine wpList_alloc_of rfl 54 rfl (entL noE) HZE.out ?_))
  obtain ⟨w1, hw1⟩ : ∃ x, x = w.alloc (.cells (draftV d) 52) := ⟨_, rfl⟩
  rw [← hw1] at HX HB ⊢
  clear hw1
  have hx : Cells w1.heap.size 54 (entV noE) (w1.alloc (.cells (entV noE) 54)) := heap_alloc_new w1 _
  have hb : Below w1.heap.size w1 (w1.alloc (.cells (entV noE) 54)) := (Below.refl _ _).alloc (Nat.le_refl _) _
  change Code.wp _ _ _ _ (w1.alloc (.cells (entV noE) 54))
  have HX2 := Lib.hid (HX.out.below hb)
  have HB2 := Lib.hid (HB.out.trans (hb.mono HB.out.size))
  have HG := Lib.hid HB.out.size
  obtain ⟨w2, hw2⟩ : ∃ x, x = w1.alloc (.cells (entV noE) 54) := ⟨_, rfl⟩
  obtain ⟨g, hg⟩ : ∃ x, w1.heap.size = x := ⟨_, rfl⟩
  rw [← hw2] at hx HX2 HB2 ⊢
  rw [hg] at hx HG ⊢
  have HE := Lib.hid hx
  clear hw2 hg hx hb HX HB
  refine wp_region_lit ?_
  refine wpList_load_cells rfl 52 _ rfl w.heap.size (draftV d) 52 _ rfl HX2.out Tryz.underlying52 rfl HSD.out ?_
  simp only [Act.put, List.setIfInBounds_toArray, List.set_cons_zero, List.set_cons_succ]
  refine wpList_build_val rfl 54 _ rfl [(0, .int .i64 1), (1, .agg (draftV d))] _ (by simp; exact ⟨rfl, rfl⟩) HBL.out ?_
  simp only [Act.put, List.setIfInBounds_toArray, List.set_cons_zero, List.set_cons_succ]
  refine wpList_store_cells rfl 54 _ _ rfl rfl g (entV noE) (entV (localE d)) 54 rfl rfl HE.out HSE.out HSZ.out (entV_all _) ?_
  intro w9 hc hb
  have HC9 := Lib.hid hc.out
  have HB9 := Lib.hid (show Below w.heap.size w w9 from But.toBelow HB2.out hb.out HG.out HB2.out.size)
  clear hc hb HE HB2
  go_wp2_with fail
  refine bodyPost_ret (results_cells rfl _ _ g (entV (localE d)) 54 _ rfl HC9.out Tryz.underlying54 rfl HSE.out) rfl ?_
  exact ⟨rfl, HB9.out⟩
set_option maxHeartbeats 4000000 in
set_option maxRecDepth 100000 in
theorem dev_send15 (m : Int) (p : List UInt8) (w : World) :
    Calls Tryz.prog 59 #[.int .i64 m, .string ⟨p.toArray⟩] w fun r w' => r = .returned (.agg (entV (outE m p))) ∧ Below w.heap.size w w' := by
  have HZE := Lib.hid (show (Tryz.prog.info? 54).bind (·.zero) = some (.agg (entL noE).toArray) by kernel_rfl)
  have HSE := Lib.hid (sizeEV (outE_ok m p))
  have HBL := Lib.hid (built_out m p)
  have HSZ := Lib.hid (show (entV noE).size = (entV (outE m p)).size by rw [entV_size (outE_ok m p)]; rfl)
  have hx : Cells w.heap.size 54 (entV noE) (w.alloc (.cells (entV noE) 54)) := heap_alloc_new w _
  have hb : Below w.heap.size w (w.alloc (.cells (entV noE) 54)) := (Below.refl _ _).alloc (Nat.le_refl _) _
  go_enter Tryz.func59, Tryz.ntmps59
  go_upto_region 1 with (first | (refine wpList_alloc_of rfl 54 rfl (entL noE) HZE.out ?_))
  change Code.wp _ _ _ _ (w.alloc (.cells (entV noE) 54))
  obtain ⟨w2, hw2⟩ : ∃ x, x = w.alloc (.cells (entV noE) 54) := ⟨_, rfl⟩
  rw [← hw2] at hx hb ⊢
  have HE := Lib.hid hx
  have HB := Lib.hid hb
  clear hw2 hx hb
  go_wp2_with (first
    | (refine wpList_build_val rfl 54 _ rfl [(0, .int .i64 3), (5, .int .i64 m), (6, .string ⟨p.toArray⟩)] _ rfl HBL.out ?_)
    | (refine wpList_store_cells rfl 54 _ _ rfl rfl w.heap.size (entV noE) (entV (outE m p)) 54 rfl rfl HE.out HSE.out HSZ.out (entV_all _) ?_))
  intro w9 hc hb
  have HC9 := Lib.hid hc.out
  have HB9 := Lib.hid (show Below w.heap.size w w9 from But.toBelow HB.out hb.out (Nat.le_refl _) HB.out.size)
  clear hc hb HE HB
  go_wp2_with fail
  refine bodyPost_ret (results_cells rfl _ _ w.heap.size (entV (outE m p)) 54 _ rfl HC9.out Tryz.underlying54 rfl HSE.out) rfl ?_
  exact ⟨rfl, HB9.out⟩
set_option maxHeartbeats 4000000 in
set_option maxRecDepth 100000 in
theorem dev_origin15 (e : EntN) (he : e.Ok) (w : World) :
    Calls Tryz.prog 57 #[.agg (entV e)] w fun r w' => r = .returned (.bool (decide (OrigE e))) ∧ Below w.heap.size w w' := by
  have hx : Cells w.heap.size 54 (entV e) (w.alloc (.cells (entV e) 54)) := heap_alloc_new w _
  have hb : Below w.heap.size w (w.alloc (.cells (entV e) 54)) := (Below.refl _ _).alloc (Nat.le_refl _) _
  have HB := Lib.hid hb
  obtain ⟨c0, cd, cf, cq, cp, cm, cy, cs⟩ := ent_cells he hx
  have HCF := Lib.hid cf
  have HCQ := Lib.hid cq
  clear hx hb c0 cd cf cq cp cm cy cs
  obtain ⟨f, hf⟩ : ∃ x, e.src = x := ⟨_, rfl⟩
  obtain ⟨q, hq⟩ : ∃ x, e.seq = x := ⟨_, rfl⟩
  rw [hf] at HCF
  rw [hq] at HCQ
  have HO := Shut.mk (show decide (OrigE e) = (decide (0 ≤ f) && decide (f < 5) && decide (0 < q)) by
    rw [Bool.eq_iff_iff]
    simp only [decide_eq_true_eq, Bool.and_eq_true, OrigE, hf, hq]
    omega)
  clear hf hq
  go_enter Tryz.func57, Tryz.ntmps57
  go_upto_region 1 with (fail)
  obtain ⟨w1, hw1⟩ : ∃ x, x = w.alloc (.cells (entV e) 54) := ⟨_, rfl⟩
  rw [← hw1] at HB HCF HCQ ⊢
  clear hw1
  have cf := HCF.out
  have cq := HCQ.out
  clear HCF HCQ
  by_cases h1 : 0 ≤ f
  · have g1 : decide (0 ≤ f) = true := decide_eq_true h1
    by_cases h2 : f < 5
    · have g2 : decide (f < 5) = true := decide_eq_true h2
      by_cases h3 : 0 < q
      · have g3 : decide (0 < q) = true := decide_eq_true h3
        rw [g1, g2, g3] at HO
        go_wp2_with fail
        go_ret
        exact ⟨by rw [HO.out]; rfl, HB.out⟩
      · have g3 : decide (0 < q) = false := decide_eq_false h3
        rw [g1, g2, g3] at HO
        go_wp2_with fail
        go_ret
        exact ⟨by rw [HO.out]; rfl, HB.out⟩
    · have g2 : decide (f < 5) = false := decide_eq_false h2
      rw [g1, g2] at HO
      go_wp2_with fail
      go_ret
      exact ⟨by rw [HO.out]; rfl, HB.out⟩
  · have g1 : decide (0 ≤ f) = false := decide_eq_false h1
    rw [g1] at HO
    go_wp2_with fail
    go_ret
    exact ⟨by rw [HO.out]; rfl, HB.out⟩
set_option maxHeartbeats 4000000 in
set_option maxRecDepth 100000 in
theorem dev_cargo15 (e : EntN) (he : e.Ok) (w : World) :
    Calls Tryz.prog 58 #[.agg (entV e)] w fun r w' => r = .returned (.bool (decide (OutE e))) ∧ Below w.heap.size w w' := by
  have hx : Cells w.heap.size 54 (entV e) (w.alloc (.cells (entV e) 54)) := heap_alloc_new w _
  have hb : Below w.heap.size w (w.alloc (.cells (entV e) 54)) := (Below.refl _ _).alloc (Nat.le_refl _) _
  have HB := Lib.hid hb
  obtain ⟨c0, cd, cf, cq, cp, cm, cy, cs⟩ := ent_cells he hx
  have HCF := Lib.hid cm
  have HCQ := Lib.hid cy
  clear hx hb c0 cd cf cq cp cm cy cs
  obtain ⟨f, hf⟩ : ∃ x, e.mask = x := ⟨_, rfl⟩
  obtain ⟨q, hq⟩ : ∃ n, e.pay.length = n := ⟨_, rfl⟩
  rw [hf] at HCF
  have HO := Shut.mk (show decide (OutE e) = (decide (0 < f) && decide (f ≤ 31) && decide ((q : Int) ≤ 2048)) by
    rw [Bool.eq_iff_iff]
    simp only [decide_eq_true_eq, Bool.and_eq_true, OutE, hf, hq]
    omega)
  clear hf
  go_enter Tryz.func58, Tryz.ntmps58
  go_upto_region 1 with (fail)
  obtain ⟨w1, hw1⟩ : ∃ x, x = w.alloc (.cells (entV e) 54) := ⟨_, rfl⟩
  rw [← hw1] at HB HCF HCQ ⊢
  clear hw1
  have cf := HCF.out
  have cq := HCQ.out
  clear HCF HCQ
  by_cases h1 : 0 < f
  · have g1 : decide (0 < f) = true := decide_eq_true h1
    by_cases h2 : f ≤ 31
    · have g2 : decide (f ≤ 31) = true := decide_eq_true h2
      by_cases h3 : (q : Int) ≤ 2048
      · have g3 : decide ((q : Int) ≤ 2048) = true := decide_eq_true h3
        rw [g1, g2, g3] at HO
        go_wp2_with fail
        go_ret
        exact ⟨by rw [HO.out]; rfl, HB.out⟩
      · have g3 : decide ((q : Int) ≤ 2048) = false := decide_eq_false h3
        rw [g1, g2, g3] at HO
        go_wp2_with fail
        go_ret
        exact ⟨by rw [HO.out]; rfl, HB.out⟩
    · have g2 : decide (f ≤ 31) = false := decide_eq_false h2
      rw [g1, g2] at HO
      go_wp2_with fail
      go_ret
      exact ⟨by rw [HO.out]; rfl, HB.out⟩
  · have g1 : decide (0 < f) = false := decide_eq_false h1
    rw [g1] at HO
    go_wp2_with fail
    go_ret
    exact ⟨by rw [HO.out]; rfl, HB.out⟩
set_option maxHeartbeats 4000000 in
set_option maxRecDepth 100000 in
theorem dev_good15 (e : EntN) (he : e.Len) (w : World) :
    Calls Tryz.prog 32 #[.agg (entV e)] w fun r w' => r = .returned (.bool (decide (GoodE e))) ∧ Below w.heap.size w w' := by
  have hx : Cells w.heap.size 54 (entV e) (w.alloc (.cells (entV e) 54)) := heap_alloc_new w _
  have hb : Below w.heap.size w (w.alloc (.cells (entV e) 54)) := (Below.refl _ _).alloc (Nat.le_refl _) _
  have HX := Lib.hid hx
  have HB := Lib.hid hb
  have HE := Lib.hid he
  have HSE := Lib.hid (sizeEV he.ok)
  have HSD := Lib.hid (show (Tryz.prog.info? 52).map (·.size) = some (draftL e.d).length by rw [draftL_len he.ok.ref.1]; exact Tryz.sizeD)
  clear hx hb he
  go_enter Tryz.func32, Tryz.ntmps32
  go_upto_region 1 with (fail)
  obtain ⟨w1, hw1⟩ : ∃ x, x = w.alloc (.cells (entV e) 54) := ⟨_, rfl⟩
  rw [← hw1] at HX HB ⊢
  clear hw1
  obtain ⟨c0, cd, cf, cq, cp, cm, cy, cs⟩ := ent_cells HE.out.ok HX.out
  have HBL := Lib.hid HX.out.lt
  have HCX := Lib.hid (fun (w' : World) (q : Below w1.heap.size w1 w') => HX.out.below q)
  have HCD := Lib.hid (fun (w' : World) (q : Below w1.heap.size w1 w') => rangeAt_belowI cd q HX.out.lt)
  have HCM := Lib.hid (fun (w' : World) (q : Below w1.heap.size w1 w') => (q.cell (p := ⟨w.heap.size, 70, none⟩) HX.out.lt).trans cm)
  have HCY := Lib.hid (fun (w' : World) (q : Below w1.heap.size w1 w') => (q.cell (p := ⟨w.heap.size, 71, none⟩) HX.out.lt).trans cy)
  have HCS := Lib.hid (fun (w' : World) (q : Below w1.heap.size w1 w') => (q.cell (p := ⟨w.heap.size, 72, none⟩) HX.out.lt).trans cs)
  obtain ⟨k, hk⟩ : ∃ x, e.kind = x := ⟨_, rfl⟩
  have HK := Shut.mk hk
  rw [hk] at c0
  clear cd cf cq cp cm cy cs hk
  by_cases h1 : k = 1
  · have g1 : (k == 1) = true := by simp [h1]
    have HGI := Shut.mk (goodE1 (HK.out.trans h1))
    have HLC := Lib.hid (fun w' => dev_local15 e.d HE.out.ok.ref w')
    have HGD := Lib.hid (fun w' => dev_goodDraft e.d HE.out.ok.ref HE.out.key HE.out.val w')
    obtain ⟨a, ha⟩ : ∃ b, decide (e = localE e.d) = b := ⟨_, rfl⟩
    obtain ⟨b, hb⟩ : ∃ b, decide (GoodD e.d) = b := ⟨_, rfl⟩
    have HEQ := Lib.hid (fun w' => eql_ent e (localE e.d) HE.out.ok (localE_ok HE.out.ok.ref) w')
    rw [ha] at HEQ
    rw [hb] at HGD
    have HZ := Shut.mk (show decide (GoodE e) = (a && b) by
      rw [← ha, ← hb, Bool.eq_iff_iff]
      simp only [decide_eq_true_eq, Bool.and_eq_true]
      exact HGI.out)
    clear ha hb HGI h1
    go_upto_region 3 with (fail)
    cases a
    all_goals
      refine wp_region_class (fun w' => Below w1.heap.size w1 w') (by kernel_rfl) (by kernel_rfl) (Below.refl _ _).drew ?_
      repeat (first
        | go_big_quiet_skip
        | (go_big_quiet_want; refine quiet_load_cells 54 _ rfl w.heap.size (entV e) 54 _ rfl HCX.out Tryz.underlying54 rfl HSE.out ?_; go_big_quiet_on; simp only [Act.put, List.setIfInBounds_toArray, List.set_cons_zero, List.set_cons_succ])
        | (go_big_quiet_want; refine quiet_load_row 52 _ rfl w.heap.size 1 (draftL e.d) _ rfl HCD.out Tryz.underlying52 rfl HSD.out ?_; go_big_quiet_on; simp only [Act.put, List.setIfInBounds_toArray, List.set_cons_zero, List.set_cons_succ])
        | (go_big_quiet_want; refine quiet_bin .eql 54 _ _ _ rfl (.agg (entV e)) (.agg (entV (localE e.d))) _ rfl rfl (guard_ent .eql (.inl rfl) _ _ _ _) HEQ.out ?_; go_big_quiet_on; simp only [Act.put, List.setIfInBounds_toArray, List.set_cons_zero, List.set_cons_succ])
        | go_big_quiet_step ((intro hs'; first
            | (go_at_call 55; exact (HLC.out _).mono fun e w' h => ⟨h.1, hs'.trans (h.2.mono hs'.size)⟩)
            | (go_at_call 56; exact (HGD.out _).mono fun e w' h => ⟨h.1, hs'.trans (h.2.mono hs'.size)⟩)
            | rfl)))
      refine wpQuiet_nil ?_
      intro w2 hs2
      have HB2 := Lib.hid (HB.out.trans (hs2.mono HB.out.size))
      clear hs2
      go_wp2_with fail
      go_ret
      exact ⟨by rw [HZ.out]; rfl, HB2.out⟩
  have g1 : (k == 1) = false := by simp [h1]
  by_cases h2 : k = 2
  · have g2 : (k == 2) = true := by simp [h2]
    have HGI := Shut.mk (goodE2 (HK.out.trans h2))
    have HOR := Lib.hid (fun w' => dev_origin15 e HE.out.ok w')
    have HCG := Lib.hid (fun w' => dev_cargo15 e HE.out.ok w')
    obtain ⟨sl, hsl⟩ : ∃ n, e.sig.length = n := ⟨_, rfl⟩
    obtain ⟨a, ha⟩ : ∃ b, decide (e.d = noD) = b := ⟨_, rfl⟩
    obtain ⟨b, hb⟩ : ∃ b, decide (OrigE e) = b := ⟨_, rfl⟩
    obtain ⟨c, hc⟩ : ∃ b, decide (OutE e) = b := ⟨_, rfl⟩
    obtain ⟨d, hd⟩ : ∃ b, decide ((sl : Int) ≤ 1024) = b := ⟨_, rfl⟩
    have HEQ := Lib.hid (fun w' => eql_draft e.d noD HE.out.ok.ref zeroI_ok w')
    rw [ha] at HEQ
    rw [hb] at HOR
    rw [hc] at HCG
    have HZ := Shut.mk (show decide (GoodE e) = (a && b && c && d) by
      rw [← ha, ← hb, ← hc, ← hd, ← hsl, Bool.eq_iff_iff]
      simp only [decide_eq_true_eq, Bool.and_eq_true]
      rw [HGI.out]
      constructor
      · rintro ⟨x, y, z, u⟩
        exact ⟨⟨⟨x, y⟩, z⟩, by omega⟩
      · rintro ⟨⟨⟨x, y⟩, z⟩, u⟩
        exact ⟨x, y, z, by omega⟩)
    have HBD := Lib.hid (show Tryz.prog.built 52 [] = some (draftV noD) from built_draft0)
    clear ha hb hc HGI h1 h2
    go_upto_region 5 with (fail)
    cases a with
    | false =>
      go_wp2_with (first
      | (refine wpList_load_mid rfl 52 _ rfl w.heap.size 1 rfl _ _ (HCD.out _ (Below.refl _ _)) Tryz.underlying52 rfl HSD.out ?_)
      | (refine wpList_build_val rfl 52 #[] rfl [] _ (by simp) HBD.out ?_)
      | (refine wpList_bin rfl .eql 52 _ _ _ rfl (.agg (draftV e.d)) (.agg (draftV noD)) _ rfl rfl (guard_draft _ _ _ _) HEQ.out ?_)
      | (refine wpList_load_cells_want (by rfl) 54 _ rfl w.heap.size (entV e) 54 _ rfl (HCX.out _ (Below.refl _ _)) Tryz.underlying54 rfl HSE.out ?_))
      go_ret
      exact ⟨by rw [HZ.out]; rfl, HB.out⟩
    | true =>
    go_wp2_with (first
      | (refine wpList_load_mid rfl 52 _ rfl w.heap.size 1 rfl _ _ (HCD.out _ (Below.refl _ _)) Tryz.underlying52 rfl HSD.out ?_)
      | (refine wpList_build_val rfl 52 #[] rfl [] _ (by simp) HBD.out ?_)
      | (refine wpList_bin rfl .eql 52 _ _ _ rfl (.agg (draftV e.d)) (.agg (draftV noD)) _ rfl rfl (guard_draft _ _ _ _) HEQ.out ?_)
      | (refine wpList_load_cells_want (by rfl) 54 _ rfl w.heap.size (entV e) 54 _ rfl (HCX.out _ (Below.refl _ _)) Tryz.underlying54 rfl HSE.out ?_))
    refine (HOR.out w1).mono ?_
    rintro r w2 ⟨rfl, hb⟩
    have HB2 := Lib.hid (hb.mono HB.out.size)
    have HBW := Lib.hid hb
    clear hb HOR
    cases b with
    | false =>
      go_wp2_with fail
      go_ret
      exact ⟨by rw [HZ.out]; rfl, HB.out.trans HB2.out⟩
    | true =>
    go_wp2_with (refine wpList_load_cells_want (by rfl) 54 _ rfl w.heap.size (entV e) 54 _ rfl (HCX.out _ HBW.out) Tryz.underlying54 rfl HSE.out ?_)
    refine (HCG.out w2).mono ?_
    rintro r w3 ⟨rfl, hb⟩
    have HB3 := Lib.hid (HBW.out.trans (hb.mono HBW.out.size))
    clear hb HBW HCG HB2
    have cs := HCS.out w3 HB3.out
    cases c with
    | false =>
      go_wp2_with fail
      go_ret
      exact ⟨by rw [HZ.out]; rfl, HB.out.trans (HB3.out.mono HB.out.size)⟩
    | true =>
    cases d with
    | false =>
      go_wp2_with fail
      go_ret
      exact ⟨by rw [HZ.out]; rfl, HB.out.trans (HB3.out.mono HB.out.size)⟩
    | true =>
      go_wp2_with fail
      go_ret
      exact ⟨by rw [HZ.out]; rfl, HB.out.trans (HB3.out.mono HB.out.size)⟩
  have g2 : (k == 2) = false := by simp [h2]
  by_cases h3 : k = 3
  · have g3 : (k == 3) = true := by simp [h3]
    have HGI := Shut.mk (goodE3 (HK.out.trans h3))
    have HLC := Lib.hid (fun w' => dev_send15 e.mask e.pay w')
    have HGD := Lib.hid (fun w' => dev_cargo15 e HE.out.ok w')
    obtain ⟨a, ha⟩ : ∃ b, decide (e = outE e.mask e.pay) = b := ⟨_, rfl⟩
    obtain ⟨b, hb⟩ : ∃ b, decide (OutE e) = b := ⟨_, rfl⟩
    have HEQ := Lib.hid (fun w' => eql_ent e (outE e.mask e.pay) HE.out.ok (outE_ok _ _) w')
    rw [ha] at HEQ
    rw [hb] at HGD
    have HZ := Shut.mk (show decide (GoodE e) = (a && b) by
      rw [← ha, ← hb, Bool.eq_iff_iff]
      simp only [decide_eq_true_eq, Bool.and_eq_true]
      exact HGI.out)
    clear ha hb HGI h1 h2 h3
    go_upto_region 7 with (fail)
    cases a
    all_goals
      refine wp_region_class (fun w' => Below w1.heap.size w1 w') (by kernel_rfl) (by kernel_rfl) (Below.refl _ _).drew ?_
      repeat (first
        | go_big_quiet_skip
        | (go_big_quiet_want; refine quiet_load_cells 54 _ rfl w.heap.size (entV e) 54 _ rfl HCX.out Tryz.underlying54 rfl HSE.out ?_; go_big_quiet_on; simp only [Act.put, List.setIfInBounds_toArray, List.set_cons_zero, List.set_cons_succ])
        | (go_big_quiet_want; refine quiet_load_cell 3 _ rfl ⟨w.heap.size, 70, none⟩ _ rfl HCM.out Tryz.isAgg3 ?_; go_big_quiet_on; simp only [Act.put, List.setIfInBounds_toArray, List.set_cons_zero, List.set_cons_succ])
        | (go_big_quiet_want; refine quiet_load_cell 9 _ rfl ⟨w.heap.size, 71, none⟩ _ rfl HCY.out Tryz.isAgg9 ?_; go_big_quiet_on; simp only [Act.put, List.setIfInBounds_toArray, List.set_cons_zero, List.set_cons_succ])
        | (go_big_quiet_want; refine quiet_bin .eql 54 _ _ _ rfl (.agg (entV e)) (.agg (entV (outE e.mask e.pay))) _ rfl rfl (guard_ent .eql (.inl rfl) _ _ _ _) HEQ.out ?_; go_big_quiet_on; simp only [Act.put, List.setIfInBounds_toArray, List.set_cons_zero, List.set_cons_succ])
        | go_big_quiet_step ((intro hs'; first
            | (go_at_call 59; exact (HLC.out _).mono fun e w' h => ⟨h.1, hs'.trans (h.2.mono hs'.size)⟩)
            | (go_at_call 58; exact (HGD.out _).mono fun e w' h => ⟨h.1, hs'.trans (h.2.mono hs'.size)⟩)
            | rfl)))
      refine wpQuiet_nil ?_
      intro w2 hs2
      have HB2 := Lib.hid (HB.out.trans (hs2.mono HB.out.size))
      clear hs2
      go_wp2_with fail
      go_ret
      exact ⟨by rw [HZ.out]; rfl, HB2.out⟩
  have g3 : (k == 3) = false := by simp [h3]
  have HZ := Shut.mk (show decide (GoodE e) = false from decide_eq_false (goodE0 (by rw [HK.out]; exact h1) (by rw [HK.out]; exact h2) (by rw [HK.out]; exact h3)))
  clear h1 h2 h3
  go_wp2_with fail
  go_ret
  exact ⟨by rw [HZ.out]; rfl, HB.out⟩
end Go.Proofs.YtpfhlhcnmeodbaaGreatDoor
namespace Go.Proofs.YtpfhlhcnmeodbaaGreatDoor
open Go.RowKit Go.BigFrame
theorem at_row15 (w : World) (l : List (List UInt8)) (h : l.length ≤ 1000) : StrsAt (some ⟨w.heap.size, 0, none⟩) l (w.alloc (.cells (strs l).toArray 9)) := by
  refine strsAt_own (B := w.heap.size) (c := l.length) ?_
  exact World.ownsRow_lit (base := w.heap.size) (e := 9) (size := 1) w (strs l).toArray l.length (Nat.le_refl _) (by unfold maxLen; omega) (by rw [List.size_toArray, strs_length, Nat.mul_one])
set_option maxHeartbeats 4000000 in
set_option maxRecDepth 100000 in
theorem dev_text15 (e : EntN) (he : e.Len) (hq : e.seq < 9223372036854775808) (w : World) :
    Calls Tryz.prog 88 #[.agg (entV e)] w fun r w' => r = .returned (.string ⟨(entB e).toArray⟩) ∧ Below w.heap.size w w' := by
  have hx : Cells w.heap.size 54 (entV e) (w.alloc (.cells (entV e) 54)) := heap_alloc_new w _
  have hb : Below w.heap.size w (w.alloc (.cells (entV e) 54)) := (Below.refl _ _).alloc (Nat.le_refl _) _
  have HX := Lib.hid hx
  have HB := Lib.hid hb
  have HE := Lib.hid he
  have HGD := Lib.hid (fun w' => dev_good15 e he w')
  have HSE := Lib.hid (sizeEV he.ok)
  have HLE := Lib.hid (fun h : GoodE e => partsE_le h ⟨he.ok, hq⟩)
  have HQ := Lib.hid hq
  have HSD := Lib.hid (show (Tryz.prog.info? 52).map (·.size) = some (draftL e.d).length by rw [draftL_len he.ok.ref.1]; exact Tryz.sizeD)
  clear hx hb he hq
  obtain ⟨g, hg⟩ : ∃ b, decide (GoodE e) = b := ⟨_, rfl⟩
  have HG := Shut.mk hg
  rw [hg] at HGD
  clear hg
  go_enter Tryz.func88, Tryz.ntmps88
  go_upto_region 1 with (fail)
  obtain ⟨w1, hw1⟩ : ∃ x, x = w.alloc (.cells (entV e) 54) := ⟨_, rfl⟩
  rw [← hw1] at HX HB ⊢
  clear hw1
  go_wp2_with (refine wpList_load_cells rfl 54 _ rfl w.heap.size (entV e) 54 _ rfl HX.out Tryz.underlying54 rfl HSE.out ?_)
  refine (HGD.out w1).mono ?_
  rintro r w2 ⟨rfl, hb⟩
  have HX2 := Lib.hid (HX.out.below hb)
  have HB2 := Lib.hid (HB.out.trans (hb.mono HB.out.size))
  clear hb HGD HX HB
  cases g with
  | false =>
    have HZ := Shut.mk (entB_bad (of_decide_eq_false HG.out))
    go_wp2_with fail
    go_ret
    exact ⟨by rw [HZ.out]; rfl, HB2.out⟩
  | true =>
  have hgood := of_decide_eq_true HG.out
  have HZ := Shut.mk (entB_good hgood)
  have HGO := Lib.hid hgood
  have HLN := Lib.hid (HLE.out hgood)
  clear HLE HG
  obtain ⟨k, hk⟩ : ∃ k, e.kind = k := ⟨_, rfl⟩
  have HK := Shut.mk hk
  have HK3 := Lib.hid (show k = 1 ∨ k = 2 ∨ k = 3 by
    rw [← hk]
    rcases hgood with h | h | h
    · exact .inl h.1
    · exact .inr (.inl h.1)
    · exact .inr (.inr h.1))
  have c0 := (ent_cells HE.out.ok HX2.out).1
  rw [hk] at c0
  clear hk hgood
  go_wp2_with fail
  refine (num_int k w2 (by have := HK3.out; omega) (by have := HK3.out; omega)).mono ?_
  rintro r w3 ⟨rfl, hb⟩
  have HX3 := Lib.hid (HX2.out.below hb)
  have HB3 := Lib.hid (HB2.out.trans (hb.mono HB2.out.size))
  clear hb c0 HX2 HB2
  obtain ⟨c0, cd, cf, cq, cp, cm, cy, cs⟩ := ent_cells HE.out.ok HX3.out
  have HL3 := Lib.hid HX3.out.lt
  rw [HK.out] at c0
  obtain ⟨N1, hN1⟩ : ∃ x, numB k.toNat = x := ⟨_, rfl⟩
  have HN1 := Shut.mk hN1
  rw [hN1]
  clear hN1
  rcases HK3.out with h1 | h2 | h3
  · have g1 : (k == 1) = true := by simp [h1]
    have hgood := HGO.out
    have hk1 : e.kind = 1 := HK.out.trans h1
    have hd : GoodD e.d := ((goodE1 hk1).1 hgood).2
    have HP := Shut.mk (show partsE e = [N1, draftB e.d] by rw [partsE, if_pos hk1, ← HN1.out, h1]; rfl)
    have HDT := Lib.hid (fun w' => dev_draftText e.d (hd.fit HE.out.ok.ref) w')
    have HCD := Lib.hid cd
    rw [HP.out] at HZ HLN
    obtain ⟨DB, hDB⟩ : ∃ x, draftB e.d = x := ⟨_, rfl⟩
    rw [hDB] at HDT HZ HLN
    clear hk1 hd hDB HP hgood h1 cd cf cq cp cm cy cs
    go_wp2_with (refine wpList_load_mid rfl 52 _ rfl w.heap.size 1 rfl _ _ HCD.out Tryz.underlying52 rfl HSD.out ?_)
    refine (HDT.out w3).mono ?_
    rintro r w4 ⟨rfl, hb⟩
    have HB4 := Lib.hid (HB3.out.trans (hb.mono HB3.out.size))
    have HS := Lib.hid (at_row15 w4 [N1, DB] (by simp))
    clear hb c0 HCD HB3 HDT
    go_wp2_with fail
    refine (list_any (some ⟨w4.heap.size, 0, none⟩) 2 [N1, DB] _ HS.out (by simp) (by have := HLN.out; omega)).mono ?_
    rintro r w5 ⟨rfl, hb⟩
    have HB5 := Lib.hid (HB4.out.trans (((Below.refl _ w4).alloc (Nat.le_refl _) _).trans (hb.mono (by simp)) |>.mono HB4.out.size))
    clear hb HB4
    go_wp2_with fail
    go_ret
    exact ⟨by rw [HZ.out]; rfl, HB5.out⟩
  · have g1 : (k == 1) = false := by simp [h2]
    have g2 : (k == 2) = true := by simp [h2]
    have hgood := HGO.out
    have hk1 : e.kind = 2 := HK.out.trans h2
    obtain ⟨hd, ⟨h4, h5, h6⟩, ⟨h7, h8, h9⟩, h10⟩ := (goodE2 hk1).1 hgood
    obtain ⟨a, ha⟩ : ∃ x, e.src = x := ⟨_, rfl⟩
    obtain ⟨b, hbb⟩ : ∃ x, e.seq = x := ⟨_, rfl⟩
    obtain ⟨m, hm⟩ : ∃ x, e.mask = x := ⟨_, rfl⟩
    have HP := Shut.mk (show partsE e = [N1, numB a.toNat, numB b.toNat, txt e.prev, numB m.toNat, e.pay, e.sig] by
      rw [partsE, if_neg (by omega), if_pos hk1, ← HN1.out, ha, hbb, hm, h2]
      rfl)
    rw [HP.out] at HZ HLN
    rw [ha] at cf
    rw [hbb] at cq
    rw [hm] at cm
    have HC2 := Lib.hid (fun (w' : World) (q : Below w3.heap.size w3 w') => (q.cell (p := ⟨w.heap.size, 36, none⟩) HL3.out).trans cf)
    have HC3 := Lib.hid (fun (w' : World) (q : Below w3.heap.size w3 w') => (q.cell (p := ⟨w.heap.size, 37, none⟩) HL3.out).trans cq)
    have HC4 := Lib.hid (fun (w' : World) (q : Below w3.heap.size w3 w') => conv_mid (P := Tryz.prog) (src := 97) (dst := 9) (c := 32) Tryz.underlying97 Tryz.underlying5 Tryz.underlying9 HE.out.ok.prev.1.symm HE.out.ok.prev.2 (rangeAt_belowI cp q HL3.out))
    have HC5 := Lib.hid (fun (w' : World) (q : Below w3.heap.size w3 w') => (q.cell (p := ⟨w.heap.size, 70, none⟩) HL3.out).trans cm)
    have HC6 := Lib.hid (fun (w' : World) (q : Below w3.heap.size w3 w') => (q.cell (p := ⟨w.heap.size, 71, none⟩) HL3.out).trans cy)
    have HC7 := Lib.hid (fun (w' : World) (q : Below w3.heap.size w3 w') => (q.cell (p := ⟨w.heap.size, 72, none⟩) HL3.out).trans cs)
    have HNA := Lib.hid (fun w' => num_int a w' (by omega) (by omega))
    have HNB := Lib.hid (fun w' => num_int b w' (by omega) (by have := HQ.out; omega))
    have HNM := Lib.hid (fun w' => num_int m w' (by omega) (by omega))
    obtain ⟨PV, hPV⟩ : ∃ x, txt e.prev = x := ⟨_, rfl⟩
    rw [hPV] at HC4 HZ HLN
    clear hk1 HP hgood cd cf cq cp cm cy cs ha hbb hm hPV hd h4 h5 h6 h7 h8 h9 h10 h2
    go_upto_region 8 with (fail)
    refine wp_region_class_tail (fun w' => Below w3.heap.size w3 w') 17 (by kernel_rfl) (by kernel_rfl) (Below.refl _ _).drew ?_
    simp only [List.take_succ_cons, List.take_zero, List.drop_succ_cons, List.drop_zero]
    repeat (first
      | (go_big_quiet_want; refine quiet_load_cell 3 _ rfl ⟨w.heap.size, 36, none⟩ _ rfl HC2.out Tryz.isAgg3 ?_; go_big_quiet_on; simp only [Act.put, List.setIfInBounds_toArray, List.set_cons_zero, List.set_cons_succ])
      | (go_big_quiet_want; refine quiet_load_cell 3 _ rfl ⟨w.heap.size, 37, none⟩ _ rfl HC3.out Tryz.isAgg3 ?_; go_big_quiet_on; simp only [Act.put, List.setIfInBounds_toArray, List.set_cons_zero, List.set_cons_succ])
      | (go_big_quiet_want; refine quiet_load_cell 3 _ rfl ⟨w.heap.size, 70, none⟩ _ rfl HC5.out Tryz.isAgg3 ?_; go_big_quiet_on; simp only [Act.put, List.setIfInBounds_toArray, List.set_cons_zero, List.set_cons_succ])
      | (go_big_quiet_want; refine quiet_load_cell 9 _ rfl ⟨w.heap.size, 71, none⟩ _ rfl HC6.out Tryz.isAgg9 ?_; go_big_quiet_on; simp only [Act.put, List.setIfInBounds_toArray, List.set_cons_zero, List.set_cons_succ])
      | (go_big_quiet_want; refine quiet_load_cell 9 _ rfl ⟨w.heap.size, 72, none⟩ _ rfl HC7.out Tryz.isAgg9 ?_; go_big_quiet_on; simp only [Act.put, List.setIfInBounds_toArray, List.set_cons_zero, List.set_cons_succ])
      | (go_big_quiet_want; refine quiet_conv 97 9 _ rfl (.slice (some ⟨w.heap.size, 38, none⟩) 32 32) _ rfl HC4.out ?_; go_big_quiet_on; simp only [Act.put, List.setIfInBounds_toArray, List.set_cons_zero, List.set_cons_succ])
      | go_big_quiet_step ((intro hs'; first
          | (go_at_call_of 50 (Value.int .i64 a); exact (HNA.out _).mono fun e w' h => ⟨h.1, hs'.trans (h.2.mono hs'.size)⟩)
          | (go_at_call_of 50 (Value.int .i64 b); exact (HNB.out _).mono fun e w' h => ⟨h.1, hs'.trans (h.2.mono hs'.size)⟩)
          | (go_at_call_of 50 (Value.int .i64 m); exact (HNM.out _).mono fun e w' h => ⟨h.1, hs'.trans (h.2.mono hs'.size)⟩)
          | rfl)))
    refine wpQuiet_nil ?_
    intro w4 hs4
    have HB4 := Lib.hid (HB3.out.trans (hs4.mono HB3.out.size))
    clear hs4 HC2 HC3 HC4 HC5 HC6 HC7 HNA HNB HNM HB3
    have HS := Lib.hid (at_row15 w4 [N1, numB a.toNat, numB b.toNat, PV, numB m.toNat, e.pay, e.sig] (by simp))
    go_wp2_with fail
    refine (list_any (some ⟨w4.heap.size, 0, none⟩) 7 [N1, numB a.toNat, numB b.toNat, PV, numB m.toNat, e.pay, e.sig] _ HS.out (by simp) (by have := HLN.out; omega)).mono ?_
    rintro r w5 ⟨rfl, hb⟩
    have HB5 := Lib.hid (HB4.out.trans (((Below.refl _ w4).alloc (Nat.le_refl _) _).trans (hb.mono (by simp)) |>.mono HB4.out.size))
    clear hb HB4
    go_wp2_with fail
    go_ret
    exact ⟨by rw [HZ.out]; rfl, HB5.out⟩
  · have g1 : (k == 1) = false := by simp [h3]
    have g2 : (k == 2) = false := by simp [h3]
    have hgood := HGO.out
    have hk1 : e.kind = 3 := HK.out.trans h3
    obtain ⟨-, h7, h8, h9⟩ := (goodE3 hk1).1 hgood
    obtain ⟨m, hm⟩ : ∃ x, e.mask = x := ⟨_, rfl⟩
    have HP := Shut.mk (show partsE e = [N1, numB m.toNat, e.pay] by
      rw [partsE, if_neg (by omega), if_neg (by omega), ← HN1.out, hm, h3]
      rfl)
    rw [HP.out] at HZ HLN
    rw [hm] at cm
    have HC5 := Lib.hid (fun (w' : World) (q : Below w3.heap.size w3 w') => (q.cell (p := ⟨w.heap.size, 70, none⟩) HL3.out).trans cm)
    have HC6 := Lib.hid (fun (w' : World) (q : Below w3.heap.size w3 w') => (q.cell (p := ⟨w.heap.size, 71, none⟩) HL3.out).trans cy)
    have HNM := Lib.hid (fun w' => num_int m w' (by omega) (by omega))
    clear hk1 HP hgood cd cf cq cp cm cy cs hm h7 h8 h9 h3
    go_upto_region 9 with (fail)
    refine wp_region_class_tail (fun w' => Below w3.heap.size w3 w') 6 (by kernel_rfl) (by kernel_rfl) (Below.refl _ _).drew ?_
    simp only [List.take_succ_cons, List.take_zero, List.drop_succ_cons, List.drop_zero]
    repeat (first
      | (go_big_quiet_want; refine quiet_load_cell 3 _ rfl ⟨w.heap.size, 70, none⟩ _ rfl HC5.out Tryz.isAgg3 ?_; go_big_quiet_on; simp only [Act.put, List.setIfInBounds_toArray, List.set_cons_zero, List.set_cons_succ])
      | (go_big_quiet_want; refine quiet_load_cell 9 _ rfl ⟨w.heap.size, 71, none⟩ _ rfl HC6.out Tryz.isAgg9 ?_; go_big_quiet_on; simp only [Act.put, List.setIfInBounds_toArray, List.set_cons_zero, List.set_cons_succ])
      | go_big_quiet_step ((intro hs'; first
          | (go_at_call_of 50 (Value.int .i64 m); exact (HNM.out _).mono fun e w' h => ⟨h.1, hs'.trans (h.2.mono hs'.size)⟩)
          | rfl)))
    refine wpQuiet_nil ?_
    intro w4 hs4
    have HB4 := Lib.hid (HB3.out.trans (hs4.mono HB3.out.size))
    clear hs4 HC5 HC6 HNM HB3
    have HS := Lib.hid (at_row15 w4 [N1, numB m.toNat, e.pay] (by simp))
    go_wp2_with fail
    refine (list_any (some ⟨w4.heap.size, 0, none⟩) 3 [N1, numB m.toNat, e.pay] _ HS.out (by simp) (by have := HLN.out; omega)).mono ?_
    rintro r w5 ⟨rfl, hb⟩
    have HB5 := Lib.hid (HB4.out.trans (((Below.refl _ w4).alloc (Nat.le_refl _) _).trans (hb.mono (by simp)) |>.mono HB4.out.size))
    clear hb HB4
    go_wp2_with fail
    go_ret
    exact ⟨by rw [HZ.out]; rfl, HB5.out⟩
end Go.Proofs.YtpfhlhcnmeodbaaGreatDoor
namespace Go.Proofs.YtpfhlhcnmeodbaaGreatDoor
open Go.RowKit Go.BigFrame
theorem dev_index16 (i : Int) (w : World) (h0 : 1 ≤ i) (h1 : i ≤ 9223372036854775807) :
    Calls Tryz.prog 28 #[.int .i64 i] w fun r w' => r = .returned (.int .i64 (i - 1)) ∧ Below w.heap.size w w' := by
  go_enter Tryz.func28, Tryz.ntmps28
  go_wp2_with fail
  go_ret
  exact ⟨by go_num, Below.refl _ _⟩
set_option maxHeartbeats 4000000 in
set_option maxRecDepth 100000 in
theorem dev_link16 (p : List Nat) (i : Int) (e : EntN) (hp : IdOk p) (h0 : -9223372036854775808 ≤ i) (hi : i ≤ 9223372036854775807) (he : e.Len) (hq : e.seq < 9223372036854775808) (w : World) (hk : KAt w) :
    Calls Tryz.prog 60 #[.agg (nums .u8 p).toArray, .int .i64 i, .agg (entV e)] w fun r w' => r = .returned (.agg (nums .u8 (linkN p i e)).toArray) ∧ Below w.heap.size w w' := by
  have hx1 : Cells w.heap.size 43 (nums .u8 p).toArray (((w.alloc (.cells (nums .u8 p).toArray 43)).alloc (.cells (entV e) 54)).alloc (.cells (nums .u8 zeroI).toArray 43)) := (Cells.alloc (heap_alloc_new w _) _).alloc _
  have hx2 : Cells (w.heap.size + 1) 54 (entV e) (((w.alloc (.cells (nums .u8 p).toArray 43)).alloc (.cells (entV e) 54)).alloc (.cells (nums .u8 zeroI).toArray 43)) := by
    have h := heap_alloc_new (w.alloc (.cells (nums .u8 p).toArray 43)) (.cells (entV e) 54)
    rw [World.size_alloc] at h
    exact Cells.alloc h _
  have hx3 : Cells (w.heap.size + 2) 43 (nums .u8 zeroI).toArray (((w.alloc (.cells (nums .u8 p).toArray 43)).alloc (.cells (entV e) 54)).alloc (.cells (nums .u8 zeroI).toArray 43)) := by
    have h := heap_alloc_new ((w.alloc (.cells (nums .u8 p).toArray 43)).alloc (.cells (entV e) 54)) (.cells (nums .u8 zeroI).toArray 43)
    rw [World.size_alloc, World.size_alloc] at h
    exact h
  have hb : Below w.heap.size w (((w.alloc (.cells (nums .u8 p).toArray 43)).alloc (.cells (entV e) 54)).alloc (.cells (nums .u8 zeroI).toArray 43)) := (((Below.refl _ _).alloc (Nat.le_refl _) _).alloc (by rw [World.size_alloc]; exact Nat.le_succ _) _).alloc (by rw [World.size_alloc, World.size_alloc]; omega) _
  have HX1 := Lib.hid hx1
  have HX2 := Lib.hid hx2
  have HX3 := Lib.hid hx3
  have HB := Lib.hid hb
  have HK1 := Lib.hid (hk.below hb)
  have HP := Lib.hid hp
  have HLEN := Lib.hid (linkT_len hp hi (e := e) ⟨he.ok, hq⟩)
  have HT := Lib.hid (fun w' => dev_text15 e he hq w')
  have HN := Lib.hid (fun w' => num_int i w' h0 hi)
  have HSE := Lib.hid (sizeEV he.ok)
  clear hx1 hx2 hx3 hb he hq hp hk
  go_enter Tryz.func60, Tryz.ntmps60
  go_upto_region 1 with (fail)
  change Code.wp _ _ _ _ (((w.alloc (.cells (nums .u8 p).toArray 43)).alloc (.cells (entV e) 54)).alloc (.cells (nums .u8 zeroI).toArray 43))
  obtain ⟨w1, hw1⟩ : ∃ x, x = (((w.alloc (.cells (nums .u8 p).toArray 43)).alloc (.cells (entV e) 54)).alloc (.cells (nums .u8 zeroI).toArray 43)) := ⟨_, rfl⟩
  rw [← hw1] at HX1 HX2 HX3 HB HK1 ⊢
  clear hw1
  have HC3 := Lib.hid (fun (w' : World) (q : SS w1 w') => conv_mid (P := Tryz.prog) (src := 97) (dst := 9) (c := 32) Tryz.underlying97 Tryz.underlying5 Tryz.underlying9 HP.out.1.symm HP.out.2 (rangeAt_belowI (cells_range HX1.out) q.1 HX1.out.lt))
  have HC4 := Lib.hid (fun (w' : World) (q : SS w1 w') => HX2.out.below q.1)
  refine wp_region_class_tail (SS w1) 6 (by kernel_rfl) (by kernel_rfl) (SS.start HK1.out) ?_
  simp only [List.take_succ_cons, List.take_zero, List.drop_succ_cons, List.drop_zero]
  repeat (first
    | (go_big_quiet_want; refine quiet_conv 97 9 _ rfl (.slice (some ⟨w.heap.size, 0, none⟩) 32 32) _ rfl HC3.out ?_; go_big_quiet_on; simp only [Act.put, List.setIfInBounds_toArray, List.set_cons_zero, List.set_cons_succ])
    | (go_big_quiet_want; refine quiet_load_cells 54 _ rfl (w.heap.size + 1) (entV e) 54 _ rfl HC4.out Tryz.underlying54 rfl HSE.out ?_; go_big_quiet_on; simp only [Act.put, List.setIfInBounds_toArray, List.set_cons_zero, List.set_cons_succ])
    | go_big_quiet_step ((intro hs'; first
        | (go_at_call 50; exact (HN.out _).mono fun e w' h => ⟨h.1, hs'.next h.2⟩)
        | (go_at_call 88; exact (HT.out _).mono fun e w' h => ⟨h.1, hs'.next h.2⟩)
        | rfl)))
  refine wpQuiet_nil ?_
  intro w2 hs2
  have HB2 := Lib.hid (HB.out.trans (hs2.1.mono HB.out.size))
  have HX3b := Lib.hid (HX3.out.below hs2.1)
  have HK2 := Lib.hid hs2.2
  clear hs2 HX1 HX2 HX3 HB HK1 HC3 HC4 HN HT
  have HSM := Lib.hid (dev_sum [108, 105, 110, 107] (some ⟨w2.heap.size, 0, none⟩) 3 [txt p, numB i.toNat, entB e] _ (at_three w2 _ _ _) (fun h => by cases h) (by simp) (by have := HLEN.out; rw [linkT] at this; omega) (HK2.out.below ((Below.refl _ _).alloc (Nat.le_refl _) _)))
  rw [show shaN (listB [[108, 105, 110, 107], txt p, numB i.toNat, entB e]) = linkN p i e from rfl] at HSM
  have hU0 := (linkN_ok p i e).1
  obtain ⟨U, hU⟩ : ∃ U, linkN p i e = U := ⟨_, rfl⟩
  have HUE := Shut.mk hU
  rw [hU] at hU0 HSM
  have HI := Lib.hid (show (Tryz.prog.info? 43).map (·.size) = some U.length by rw [hU0]; exact Tryz.sizeI)
  have HL2 := Lib.hid (show zeroI.length = U.length by rw [hU0]; rfl)
  clear hU hU0
  go_wp2_with fail
  refine HSM.out.mono ?_
  rintro r w3 ⟨rfl, hb3⟩
  have hb : Below w2.heap.size w2 w3 := ((Below.refl _ w2).alloc (Nat.le_refl _) _).trans (hb3.mono (by simp))
  have HX3c := Lib.hid (HX3b.out.below hb)
  have HB3 := Lib.hid (HB2.out.trans (hb.mono HB2.out.size))
  clear hb hb3 HX3b HB2 HK2 HSM
  go_wp2_with (refine wpList_store_nums rfl 43 _ _ rfl rfl (w.heap.size + 2) .u8 zeroI U 43 rfl rfl HX3c.out HI.out HL2.out ?_)
  intro w7 hc' hb'
  have HC7 := Lib.hid (show Blk (w.heap.size + 2) 43 .u8 U w7 from hc'.out)
  have HB7 := Lib.hid (show Below w.heap.size w w7 from But.toBelow HB3.out hb'.out (by omega) HB3.out.size)
  clear hc' hb'
  go_wp2_with fail
  exact bodyPost_ret (results_nums rfl _ _ (w.heap.size + 2) .u8 _ 43 _ rfl HC7.out Tryz.underlying43 rfl HI.out) rfl ⟨by rw [HUE.out], HB7.out⟩
set_option maxHeartbeats 4000000 in
set_option maxRecDepth 100000 in
theorem dev_word16 (n i : Int) (h : List Nat) (n0 : -9223372036854775808 ≤ n) (hn : n ≤ 9223372036854775807) (i0 : -9223372036854775808 ≤ i) (hi : i ≤ 9223372036854775807) (hh : IdOk h) (w : World) :
    Calls Tryz.prog 29 #[.int .i64 n, .int .i64 i, .agg (nums .u8 h).toArray] w fun r w' => r = .returned (.string ⟨(wordB n i h).toArray⟩) ∧ Below w.heap.size w w' := by
  have hx1 : Cells w.heap.size 43 (nums .u8 h).toArray (w.alloc (.cells (nums .u8 h).toArray 43)) := heap_alloc_new w _
  have HX1 := Lib.hid hx1
  have HB := Lib.hid (show Below w.heap.size w (w.alloc (.cells (nums .u8 h).toArray 43)) from (Below.refl _ _).alloc (Nat.le_refl _) _)
  have HH := Lib.hid hh
  have HLEN := Lib.hid (wordB_len hn hi hh)
  have HN := Lib.hid (fun w' => num_int n w' n0 hn)
  have HI := Lib.hid (fun w' => num_int i w' i0 hi)
  clear hx1 hh
  go_enter Tryz.func29, Tryz.ntmps29
  go_upto_region 1 with (fail)
  obtain ⟨w1, hw1⟩ : ∃ x, x = w.alloc (.cells (nums .u8 h).toArray 43) := ⟨_, rfl⟩
  rw [← hw1] at HX1 HB ⊢
  clear hw1
  have HC3 := Lib.hid (fun (w' : World) (q : Below w1.heap.size w1 w') => conv_mid (P := Tryz.prog) (src := 97) (dst := 9) (c := 32) Tryz.underlying97 Tryz.underlying5 Tryz.underlying9 HH.out.1.symm HH.out.2 (rangeAt_belowI (cells_range HX1.out) q HX1.out.lt))
  refine wp_region_class_tail (fun w' => Below w1.heap.size w1 w') 6 (by kernel_rfl) (by kernel_rfl) (Below.refl _ _).drew ?_
  simp only [List.take_succ_cons, List.take_zero, List.drop_succ_cons, List.drop_zero]
  repeat (first
    | (go_big_quiet_want; refine quiet_conv 97 9 _ rfl (.slice (some ⟨w.heap.size, 0, none⟩) 32 32) _ rfl HC3.out ?_; go_big_quiet_on; simp only [Act.put, List.setIfInBounds_toArray, List.set_cons_zero, List.set_cons_succ])
    | go_big_quiet_step ((intro hs'; first
        | (go_at_call_of 50 (Value.int .i64 n); exact (HN.out _).mono fun e w' h => ⟨h.1, hs'.trans (h.2.mono hs'.size)⟩)
        | (go_at_call_of 50 (Value.int .i64 i); exact (HI.out _).mono fun e w' h => ⟨h.1, hs'.trans (h.2.mono hs'.size)⟩)
        | rfl)))
  refine wpQuiet_nil ?_
  intro w2 hs2
  have HB2 := Lib.hid (HB.out.trans (hs2.mono HB.out.size))
  clear hs2 HX1 HB HC3 HN HI
  go_wp2_with fail
  refine (list_any (some ⟨w2.heap.size, 0, none⟩) 4 [[119, 111, 114, 100], numB n.toNat, numB i.toNat, txt h] _ (at_four9 w2 _ _ _ _) (by simp) (by have := HLEN.out; rw [wordB] at this; omega)).mono ?_
  rintro e w3 ⟨rfl, hb⟩
  have HB3 := Lib.hid (HB2.out.trans (((Below.refl _ w2).alloc (Nat.le_refl _) _).trans (hb.mono (by simp)) |>.mono HB2.out.size))
  clear hb HB2
  go_wp2_with fail
  go_ret
  exact ⟨rfl, HB3.out⟩
end Go.Proofs.YtpfhlhcnmeodbaaGreatDoor
namespace Go.Proofs.YtpfhlhcnmeodbaaGreatDoor
open Go.RowKit Go.BigFrame
def sigL (S : List UInt8) (P : List (List Nat)) (k : Nat) : List Nat := byteNs S ++ (P.take k).flatten
theorem sigL_zero (S : List UInt8) (P : List (List Nat)) : sigL S P 0 = byteNs S := by simp [sigL]
theorem sigL_next (S : List UInt8) {P : List (List Nat)} {k : Nat} (h : k < P.length) : sigL S P (k + 1) = sigL S P k ++ P.getD k [] := by
  rw [sigL, sigL, take_next h, List.flatten_append, List.append_assoc]
  simp
theorem flatten_len {P : List (List Nat)} (h : Elems P) : P.flatten.length = 16 * P.length := by
  induction P with
  | nil => rfl
  | cons x P ih =>
    have h1 := (h x (by simp)).1
    have h2 := ih fun y hy => h y (by simp [hy])
    rw [List.flatten_cons, List.length_append, List.length_cons]
    omega
theorem sigL_len (S : List UInt8) {P : List (List Nat)} (hP : Elems P) {k : Nat} (h : k ≤ P.length) : (sigL S P k).length = S.length + 16 * k := by
  rw [sigL, List.length_append, byteNs_len, flatten_len (hP.take k), take_len h]
theorem sigL_lt (S : List UInt8) {P : List (List Nat)} (hP : Elems P) (k : Nat) : ∀ y ∈ sigL S P k, y < 256 := by
  intro y hy
  rw [sigL, List.mem_append] at hy
  rcases hy with hy | hy
  · exact byteNs_lt S y hy
  · obtain ⟨x, hx, hy⟩ := List.mem_flatten.1 hy
    exact ((hP.take k) x hx).2 y hy
theorem txt_flatten (P : List (List Nat)) : txt P.flatten = flatT P := by
  induction P with
  | nil => rfl
  | cons x P ih => rw [List.flatten_cons, txt_append, ih]; simp [flatT]
theorem sigL_full (S : List UInt8) (P : List (List Nat)) : txt (sigL S P P.length) = S ++ flatT P := by
  rw [sigL, List.take_length, txt_append, txt_byteNs, txt_flatten]
set_option maxHeartbeats 4000000 in
set_option maxRecDepth 100000 in
theorem dev_sign6 (v : Value) (seed : List UInt8) (h i : Nat) (t : List UInt8) (w : World) (k : KeysIs v seed h w) (hi : i < 2 ^ h) (ht : t.length ≤ 1000000) (hk : KAt w) :
    Calls Tryz.prog 27 #[v, .int .i64 i, .string ⟨t.toArray⟩] w fun e w' => e = .returned (.tuple #[.string ⟨(signK seed h i t).toArray⟩, .int .i64 0]) ∧ Below w.heap.size w w' := by
  obtain ⟨g, ao, cap, rfl, hc, he⟩ := k.lie
  have hN8 := two_le k.high
  have c1 := keys_leaves hc
  have HC := Lib.hid hc
  have HE := Lib.hid he
  have HK := Lib.hid hk
  have HPA := Lib.hid (fun w hE hk => dev_path (leavesN seed (2 ^ h)) h i ao cap w (leavesN_ok _ _) hE (by rw [leavesN_len]; exact goodN_two k.high) (leavesN_len _ _) k.high (by rw [leavesN_len]; exact hi) hk)
  rw [leavesN_len] at HPA
  have HRO := Lib.hid (rootK_ok seed h)
  have HPO := Lib.hid (pathK_ok seed hi)
  have HPL := Shut.mk (pathN_len (leavesN seed (2 ^ h)) i h)
  have HSS := Shut.mk (show signN seed i (digK (rootK seed h) i t) ++ flatT (pathN (leavesN seed (2 ^ h)) i h) = signK seed h i t from rfl)
  have hs4 : seed.length ≤ 4000 := Nat.le_trans k.short (by decide)
  have h8 := k.high
  have HDG := Lib.hid (fun w hk => dev_digest6 (rootK seed h) i t w (rootK_ok seed h).1 (rootK_ok seed h).2 (by omega) (by omega) ht hk)
  have HSG := Lib.hid (fun w hk => dev_sign seed i (digK (rootK seed h) i t) w hs4 (by omega) (by omega) (digK_len _ _ _) (digK_lt _ _ _) hk)
  have HSL := Shut.mk (signN_len seed i (digK (rootK seed h) i t))
  have HDL := Lib.hid (digK_len (rootK seed h) i t)
  obtain ⟨SG, hSG⟩ : ∃ SG, signN seed i (digK (rootK seed h) i t) = SG := ⟨_, rfl⟩
  rw [hSG] at HSS HSG HSL
  obtain ⟨D, hD⟩ : ∃ D, digK (rootK seed h) i t = D := ⟨_, rfl⟩
  rw [hD] at HDG HSG HDL
  obtain ⟨R, hR⟩ : ∃ R, rootK seed h = R := ⟨_, rfl⟩
  rw [hR] at HC HRO HDG
  obtain ⟨P, hP⟩ : ∃ P, pathN (leavesN seed (2 ^ h)) i h = P := ⟨_, rfl⟩
  rw [hP] at HPA HPO HPL HSS
  obtain ⟨L, hL⟩ : ∃ L, leavesN seed (2 ^ h) = L := ⟨_, rfl⟩
  rw [hL] at HE HPA
  obtain ⟨ST, hST⟩ : ∃ ST, signK seed h i t = ST := ⟨_, rfl⟩
  rw [hST] at HSS ⊢
  obtain ⟨N, hN⟩ : ∃ N, 2 ^ h = N := ⟨_, rfl⟩
  rw [hN] at HC HPA c1 hN8
  have HIR := Lib.hid (show (Tryz.prog.info? 29).map (·.size) = some R.length by rw [HRO.out.1]; exact Tryz.infoE)
  have HGL := Lib.hid HC.out.lt
  clear hc he hk hi k hSG hD hR hP hL hST hN hs4
  go_enter Tryz.func27, Tryz.ntmps27
  go_wp2_with fail
  refine (HPA.out w HE.out HK.out).mono ?_
  rintro e w3 ⟨⟨pv, rfl, hop⟩, hb3⟩
  obtain ⟨ap, cp, rfl⟩ := hop.form
  rw [HPL.out] at hop ⊢
  have HEP := Lib.hid (hop.at HPO.out)
  have HK3 := Lib.hid (HK.out.below hb3)
  have HC3 := Lib.hid (HC.out.below hb3)
  have HG3 := Lib.hid (show g < w3.heap.size from HC3.out.lt)
  have HB3 := Lib.hid hb3
  clear hop hb3 HK HC HE HPA c1
  go_upto_region 6 with (fail)
  refine wp_region_class_tail (fun w' => SS w3 w') 14 (by kernel_rfl) (by kernel_rfl) (SS.start HK3.out) ?_
  simp only [List.take_succ_cons, List.take_zero, List.drop_succ_cons, List.drop_zero]
  repeat (first
    | (go_big_quiet_want; refine quiet_load_cell 9 _ rfl ⟨g, 0, none⟩ (.string ⟨seed.toArray⟩) rfl (fun w' h => keys_seed (HC3.out.below h.1)) Tryz.isAgg9 ?_; go_big_quiet_on; simp only [Act.put, List.setIfInBounds_toArray, List.set_cons_zero, List.set_cons_succ])
    | (go_big_quiet_want; refine quiet_load_elem 29 _ rfl g 2 R _ rfl (fun w' h => keys_root (HC3.out.below h.1)) Tryz.underlying29 rfl HIR.out ?_; go_big_quiet_on; simp only [Act.put, List.setIfInBounds_toArray, List.set_cons_zero, List.set_cons_succ])
    | go_big_quiet_step ((intro hs'; first
        | rfl
        | (go_at_call 48; exact (HDG.out _ hs'.2).mono fun e w' h => ⟨h.1, hs'.next h.2⟩)
        | (go_at_call 47; exact (HSG.out _ hs'.2).mono fun e w' h => ⟨h.1, hs'.next h.2⟩))))
  refine wpQuiet_nil ?_
  intro w4 hs4
  have HEP4 := Lib.hid (HEP.out.below hs4.1)
  have HB4 := Lib.hid (HB3.out.trans (hs4.1.mono HB3.out.size))
  clear hs4 HEP HB3 HC3 HK3 HDG HSG
  obtain ⟨gb, cb, w5, hconv, ho5, hb5⟩ := conv_bytes SG w4 (by rw [HSL.out]; decide)
  have HO5 := Lib.hid (show OwnT w4.heap.size 5 .u8 (.slice (some ⟨gb, 0, none⟩) SG.length cb) (sigL SG P 0) w5 by rw [sigL_zero]; exact ho5)
  have HW5 := Lib.hid hb5
  clear ho5 hb5
  go_wp2_with fail
  clear hconv
  go_loopw [10, 43] (fun v n wq => ∃ k : Nat, k ≤ h ∧ n = .int .i64 k ∧ OwnT w4.heap.size 5 .u8 v (sigL SG P k) wq ∧ Below w4.heap.size w4 wq) (fun _ n _ => h - (intOf n).toNat)
  case atStart => exact ⟨0, by omega, rfl, HO5.out, HW5.out⟩
  case round =>
    clear HO5 HW5
    obtain ⟨k, hk, rfl, ho, hb⟩ := hrel
    obtain ⟨gv, cv, rfl⟩ := ho.form
    have HO := Lib.hid ho
    have HB := Lib.hid hb
    clear ho hb
    by_cases hlk : k < h
    · have hlk2 : (k : Int) < (h : Int) := by omega
      have hl : k < P.length := by rw [HPL.out]; exact hlk
      obtain ⟨b, o, rfl, hbb⟩ := HEP4.out.some (by omega)
      obtain ⟨hx1, hx2⟩ := HPO.out.getD hl
      have HX := Lib.hid (rangeAt_below (HEP4.out.get hl) HB.out hbb)
      have HNX := Shut.mk (sigL_next SG hl)
      have HSN := Shut.mk (sigL_len SG HPO.out (Nat.le_of_lt hl))
      obtain ⟨x, hx⟩ : ∃ x, P.getD k [] = x := ⟨_, rfl⟩
      rw [hx] at hx1 HX HNX
      obtain ⟨S0, hS0⟩ : ∃ S0, sigL SG P k = S0 := ⟨_, rfl⟩
      rw [hS0] at HNX HSN HO ⊢
      have HX1 := Lib.hid hx1
      have HIX := Lib.hid (show (Tryz.prog.info? 29).map (·.size) = some x.length by rw [hx1]; exact Tryz.infoE)
      have HLX := Lib.hid (show (List.replicate 16 0).length = x.length by rw [hx1]; rfl)
      have HW := Lib.hid (show w4.heap.size ≤ wr.heap.size from HB.out.size)
      clear hl hbb hx hx1 hx2 hS0
      go_wp2_with (first
        | (refine wpList_load_elem rfl 29 _ rfl b (o + k * 16) x _ rfl HX.out Tryz.underlying29 rfl HIX.out ?_)
        | (refine wpList_store_nums rfl 29 _ _ rfl rfl wr.heap.size .u8 (List.replicate 16 0) x 29 rfl rfl (heap_alloc_new wr _) HIX.out HLX.out ?_))
      intro w6 hc6 hb6
      have ha6 : Below wr.heap.size wr (wr.alloc (.cells (nums .u8 (List.replicate 16 0)).toArray 29)) := (Below.refl _ _).alloc (Nat.le_refl _) _
      have hb66 : Below wr.heap.size wr w6 := But.toBelow ha6 hb6.out (Nat.le_refl _) ha6.size
      have HN6 := Lib.hid (blk_news (show Blk wr.heap.size 29 .u8 x w6 from hc6.out))
      have HO6 := Lib.hid (HO.out.below hb66)
      have HB6 := Lib.hid (HB.out.trans (hb66.mono HB.out.size))
      have HLA := Lib.hid (show S0.length + x.length ≤ maxLen by rw [HSN.out, HSL.out, HX1.out]; unfold maxLen; omega)
      have HLB := Lib.hid (show (S0.length + x.length) * 1 ≤ 140737488355328 by rw [HSN.out, HSL.out, HX1.out]; omega)
      clear hc6 hb6 ha6 hb66 HO HB HX HIX HLX
      go_wp2_with (at_builtin; refine wpList_append_tails rfl (.tmp 47) (.tmp 48) 97 5 rfl w4.heap.size .u8 1 Tryz.underlying97 Tryz.infoByte4 _ S0 x ⟨wr.heap.size, 0, none⟩ 16 16 HX1.out.symm rfl HO6.out rfl HN6.out HLA.out HLB.out HB6.out.size ?_)
      intro v8 w8 ho8 hb8
      have HB8 := Lib.hid (show Below w4.heap.size w4 w8 from HB6.out.trans hb8.out)
      clear hb8 HLA HLB
      go_wp2_with fail
      exact ⟨⟨k + 1, by omega, by go_num, by rw [HNX.out]; exact ho8.out, HB8.out⟩, by simp [intOf]; omega⟩
    · obtain rfl : k = h := by omega
      have hnw : ¬ (k : Int) < (k : Int) := by omega
      have hcv := conv_ownT (sigL_lt SG HPO.out k) HO.out
      have HFU := sigL_full SG P
      rw [HPL.out, HSS.out] at HFU
      rw [HFU] at hcv
      have HB9 := Lib.hid (HB4.out.trans (HB.out.mono HB4.out.size))
      clear HFU HO HB
      go_wp2_with fail
      go_ret2
      exact ⟨rfl, HB9.out⟩
end Go.Proofs.YtpfhlhcnmeodbaaGreatDoor
namespace Go.Proofs.YtpfhlhcnmeodbaaGreatDoor
open Go.RowKit Go.BigFrame
theorem noA_okL : IdOk noA.hash := zeroI_ok
theorem zeroAuL : (Tryz.prog.info? 45).bind (·.zero) = some (.agg (autL noA).toArray) := by kernel_rfl
section
variable {N : Nat} {O : Nat → Prop} {v : Value} {nd : Int} {seed : List UInt8} {h : Nat} {L : List EntN}
set_option maxHeartbeats 4000000 in
set_option maxRecDepth 100000 in
theorem dev_authNone (q : Int) (w : World) (l : LogIs N O v nd seed h L w) (hq : q < 1 ∨ (L.length : Int) < q) :
    Calls Tryz.prog 9 #[v, .int .i64 q] w fun e w' => e = .returned (.tuple #[.agg (autV noA), .int .i64 5]) ∧ Below w.heap.size w w' := by
  have hx : Cells w.heap.size 45 (autV noA) (w.alloc (.cells (autV noA) 45)) := heap_alloc_new w _
  have hb : Below w.heap.size w (w.alloc (.cells (autV noA) 45)) := (Below.refl _ _).alloc (Nat.le_refl _) _
  have HH := Lib.hid (dev_has q _ (l.below hb))
  rw [decide_eq_false (show ¬ (1 ≤ q ∧ q ≤ (L.length : Int)) by omega)] at HH
  obtain ⟨a, rfl⟩ := l.ptr
  have HX := Lib.hid hx
  have HB := Lib.hid hb
  have HS := Lib.hid (sizeAV noA_okL)
  clear hx hb l hq
  go_enter Tryz.func9, Tryz.ntmps9
  go_upto_region 1 with (first | (refine wpList_alloc_of rfl 45 rfl (autL noA) zeroAuL ?_))
  change Code.wp _ _ _ _ (w.alloc (.cells (autV noA) 45))
  obtain ⟨w1, hw1⟩ : ∃ x, x = w.alloc (.cells (autV noA) 45) := ⟨_, rfl⟩
  rw [← hw1] at HX HB HH ⊢
  clear hw1
  go_wp2_with fail
  refine HH.out.mono ?_
  rintro r w2 ⟨rfl, hb⟩
  have HX2 := Lib.hid (HX.out.below hb)
  have HB2 := Lib.hid (HB.out.trans (hb.mono HB.out.size))
  clear hb HX HB HH
  go_wp2_with (first
    | (refine wpList_build_val rfl 45 #[] rfl [] _ (by simp) built_aut0 ?_)
    | (refine wpList_store_cells rfl 45 _ _ rfl rfl w.heap.size (autV noA) (autV noA) 45 rfl rfl HX2.out HS.out rfl (autV_all noA) ?_))
  intro w3 hc hb
  have HXF := Lib.hid hc.out
  have HBF := Lib.hid (show Below w.heap.size w w3 from But.toBelow HB2.out hb.out (Nat.le_refl _) HB2.out.size)
  clear hc hb
  go_wp2_with fail
  refine bodyPost_ret (results_cells_tmp rfl _ _ w.heap.size (autV noA) 45 _ _ rfl rfl HXF.out Tryz.underlying45 rfl HS.out) rfl ?_
  exact ⟨rfl, HBF.out⟩
end
theorem dev_auth_nil (w : World) : Calls Tryz.prog 9 #[.pointer none, .int .i64 1] w fun r w' => r = .returned (.tuple #[.agg (autV noA), .int .i64 2]) ∧ Below w.heap.size w w' := by
  have hx : Cells w.heap.size 45 (autV noA) (w.alloc (.cells (autV noA) 45)) := heap_alloc_new w _
  have hb : Below w.heap.size w (w.alloc (.cells (autV noA) 45)) := (Below.refl _ _).alloc (Nat.le_refl _) _
  have HX := Lib.hid hx
  have HB := Lib.hid hb
  have HS := Lib.hid (sizeAV noA_okL)
  clear hx hb
  go_enter Tryz.func9, Tryz.ntmps9
  go_upto_region 1 with (first | (refine wpList_alloc_of rfl 45 rfl (autL noA) zeroAuL ?_))
  change Code.wp _ _ _ _ (w.alloc (.cells (autV noA) 45))
  obtain ⟨w1, hw1⟩ : ∃ x, x = w.alloc (.cells (autV noA) 45) := ⟨_, rfl⟩
  rw [← hw1] at HX HB ⊢
  clear hw1
  go_wp2_with (first
    | (refine wpList_build_val rfl 45 #[] rfl [] _ (by simp) built_aut0 ?_)
    | (refine wpList_store_cells rfl 45 _ _ rfl rfl w.heap.size (autV noA) (autV noA) 45 rfl rfl HX.out HS.out rfl (autV_all noA) ?_))
  intro w3 hc hb
  have HXF := Lib.hid hc.out
  have HBF := Lib.hid (show Below w.heap.size w w3 from But.toBelow HB.out hb.out (Nat.le_refl _) HB.out.size)
  clear hc hb
  go_wp2_with fail
  refine bodyPost_ret (results_cells_tmp rfl _ _ w.heap.size (autV noA) 45 _ _ rfl rfl HXF.out Tryz.underlying45 rfl HS.out) rfl ?_
  exact ⟨rfl, HBF.out⟩
end Go.Proofs.YtpfhlhcnmeodbaaGreatDoor
namespace Go.Proofs.YtpfhlhcnmeodbaaGreatDoor
open Go.RowKit Go.BigFrame
section
variable {P : Program} {o : Oper} {a : Act} {w : World} {K : Act → World → Prop} {Q : Exit → Act → World → Prop}
theorem op_store_cells (ty : TypeId) (x y : Operand) (ho : o.op = .store ty x y) (g : Nat) (cs cs' : Array Value) (t : TypeId) (hx : a.eval x = .pointer (some ⟨g, 0, none⟩)) (hy : a.eval y = .agg cs')
    (hg : Cells g t cs w) (hi : (P.info? ty).map (·.size) = some cs'.size) (hl : cs.size = cs'.size) (h1 : cs'.all (·.oneCell') = true) (h : ∀ w', Cells g t cs' w' → But g w w' → K (a.put o.dst undef) w') : OpWp P o a w K Q :=
  ⟨wp_store_row ty x y ho g _ hx hy t _ hg hi hl h1 (h _ (setRow_heap _ _ _ _ _ _ hg) ((But.refl g w).setRow _))⟩
end
def Slot (s : Nat → Bool) (j g : Nat) (t : TypeId) (c0 c1 : Array Value) (w : World) : Prop := Cells g t (if s j = true then c1 else c0) w
section
variable {s : Nat → Bool} {j g : Nat} {t : TypeId} {c0 c1 : Array Value} {w w' : World}
theorem Slot.none (h : Cells g t c0 w) : Slot (fun _ => false) j g t c0 c1 w := h
theorem Slot.ne {m : Nat} (h : Slot s j g t c0 c1 w) (hj : j ≠ m) (hb : Below w.heap.size w w') : Slot (fun n => s n || n == m) j g t c0 c1 w' := by
  show Cells g t (if (s j || j == m) = true then c1 else c0) w'
  rw [beq_false_of_ne hj, Bool.or_false]
  exact Cells.below h hb
theorem Slot.stored (h : Cells g t c1 w) : Slot (fun n => s n || n == j) j g t c0 c1 w := by
  show Cells g t (if (s j || j == j) = true then c1 else c0) w
  rw [show (s j || j == j) = true by simp]
  exact h
theorem Slot.not (h : Slot s j g t c0 c1 w) (hu : s j = false) : Cells g t c0 w := by
  have h2 : Cells g t (if s j = true then c1 else c0) w := h
  rw [hu] at h2
  exact h2
theorem Slot.all (h : Slot s j g t c0 c1 w) (hu : s j = true) : Cells g t c1 w := by
  have h2 : Cells g t (if s j = true then c1 else c0) w := h
  rw [hu] at h2
  exact h2
end
end Go.Proofs.YtpfhlhcnmeodbaaGreatDoor
namespace Go.Proofs.YtpfhlhcnmeodbaaGreatDoor
open Go.RowKit Go.BigFrame
theorem op_assign {P : Program} {o : Oper} {a : Act} {w : World} {K : Act → World → Prop} {Q : Exit → Act → World → Prop} (x : Operand) (ho : o.op = .assign x) (v : Value) (hx : a.eval x = v) (h : K (a.put o.dst v) w) : OpWp P o a w K Q := by
  refine ⟨?_⟩
  unfold Oper.wp execOp
  simp only [ho, hx, Sem.run_pure]
  exact h
end Go.Proofs.YtpfhlhcnmeodbaaGreatDoor
namespace Go.Proofs.YtpfhlhcnmeodbaaGreatDoor
open Go.RowKit
section
variable {P : Program}
theorem wp_region_inv_all {id : Nat} {Q : Exit → Act → World → Prop} {a : Act} {w : World} {l : List Oper} (Inv : Array Bool → Act → World → Prop) (hm : P.follows .mixedOrders = true) (hlex : Region.lexHead .any l.toArray 0 l.length 0 (Array.replicate l.length false) = true)
    (h0 : Inv (Array.replicate l.toArray.size false) a w.drew)
    (hstep : ∀ seen a w i, i < l.length → i ∈ Region.ready .any l.toArray seen → i < seen.size → Inv seen a w → wpOp P l.toArray Q i (fun a' w' => Inv (seen.setIfInBounds i true) a' w') a w)
    (hend : ∀ seen a w, (∀ i, i < l.length → seen.getD i false = true) → Inv seen a w → wpList P l.toArray Q [] a w) : (Code.region id l.toArray true).wp P Q a w := by
  have hsz : l.toArray.size = l.length := by simp
  obtain ⟨hdeps, full, hfz, hfull, hseq⟩ := lexHead_spec (md := .any) (ops := l.toArray) l.length 0 (Array.replicate l.length false) (by rw [Array.size_replicate, hsz]) (fun j => by rw [getD_replicate_false]; simp) (by omega) hlex
  rw [Nat.zero_add] at hseq
  have key : ∀ r seen a w, HeadInv .any l.toArray l.length seen → left seen l.length = r → Inv seen a w → wpAny P .any l.toArray Q r seen a w := by
    intro r
    induction r with
    | zero =>
      intro seen a w inv hr hI
      have hall := left_zero hr
      have hsame : seen = full := by
        refine Array.ext (by rw [inv.size, hfz]) fun j h1 h2 => ?_
        have e1 := hfull j
        have e2 : seen.getD j false = decide (j < 0 + l.length) := by
          by_cases hj : j < l.length
          · rw [hall j hj]; simp [hj]
          · have := inv.size
            omega
        rw [← e1] at e2
        simpa [h1, h2] using e2
      exact wpAny_of_seq (md := .any) (Q' := Q) [] l.length seen a w (fun j => by simp) (by rw [hsame]; exact hseq) (hend seen a w hall hI)
    | succ r ih =>
      intro seen a w inv hr hI
      obtain ⟨k, hk, hku, hkl⟩ := left_least (seen := seen) (n := l.length) (by omega)
      have hks : k < seen.size := by rw [inv.size, hsz]; exact hk
      have hkr : k ∈ Region.ready .any l.toArray seen := by
        obtain ⟨o, ho, hb⟩ := hdeps k (by omega) (by omega)
        exact mem_ready.2 ⟨getD_in hks hku, o, ho, fun e he hbe => hkl _ (hb e he hbe)⟩
      refine ⟨fun e => (by rw [e] at hkr; cases hkr), fun i hi => ?_⟩
      have hin : i < l.length := by
        obtain ⟨_, o, ho, _⟩ := mem_ready.1 hi
        have := (Array.getElem?_eq_some_iff.1 ho).1
        omega
      have his : i < seen.size := by rw [inv.size, hsz]; exact hin
      refine wpOp_mono (fun a' w' hI' => ih _ a' w' (inv.set hi hin) ?_ hI') (hstep seen a w i hin hi his hI)
      have := left_set his (getD_both (mem_ready.1 hi).1) l.length hin
      omega
  have inv0 : HeadInv .any l.toArray l.length (Array.replicate l.toArray.size false) :=
    ⟨Array.size_replicate, fun j p _ hs => (by rw [getD_replicate_false] at hs; cases hs), fun t _ ht' => getD_in (by rw [Array.size_replicate]; exact ht') (getD_replicate_false _ _)⟩
  have H := key l.length _ a w.drew inv0 (by
    have : ∀ m, left (Array.replicate l.toArray.size false) m = m := fun m => by
      unfold left
      rw [List.countP_eq_length.2 (fun i _ => by rw [getD_replicate_false]; rfl), List.length_range]
    exact this _) h0
  rw [← hsz] at H
  exact wp_region_any hm H
theorem wp_region_free_all {id : Nat} {Q : Exit → Act → World → Prop} {a : Act} {w : World} {l : List Oper} (Inv : (Nat → Bool) → (Nat → Value) → World → Prop) (V0 : Nat → Value) (hm : P.follows .mixedOrders = true) (hB : Region.lexHead .any l.toArray 0 l.length 0 (Array.replicate l.length false) = true) (hd : apartB l = true)
    (ha : putAll l V0 a = a) (h0 : Inv (fun _ => false) V0 w.drew)
    (hstep : FreeSteps P l.toArray Q (fun V => putAll l V a) Inv l 0)
    (hend : ∀ s V w, (∀ i, i < l.length → s i = true) → Inv s V w → wpList P l.toArray Q [] (putAll l V a) w) : (Code.region id l.toArray true).wp P Q a w := by
  refine wp_region_inv_all (fun seen a' w' => ∃ V, a' = putAll l V a ∧ Inv (fun j => seen.getD j false) V w') hm hB ⟨V0, ha.symm, ?_⟩ ?_ ?_
  · rw [show (fun j => (Array.replicate l.toArray.size false).getD j false) = fun _ => false from funext fun j => getD_replicate_false _ _]
    exact h0
  · rintro seen a' w' i hi hr hs ⟨V, rfl, hI⟩
    obtain ⟨hu, o, ho, hall⟩ := mem_ready.1 hr
    have ho' : l[i]? = some o := by simpa using ho
    have hF := FreeSteps.get l i 0 o hstep ho'
    rw [Nat.zero_add] at hF
    have e : (fun j => (seen.setIfInBounds i true).getD j false) = fun j => seen.getD j false || j == i := funext fun j => by
      by_cases hj : i = j
      · subst hj; simp [hs]
      · rw [getD_set_ne false hj]
        have : (j == i) = false := by simp; omega
        rw [this, Bool.or_false]
    have hF2 := hF.go _ V w' hall (getD_both hu) hI (fun a'' w'' => ∃ V, a'' = putAll l V a ∧ Inv (fun j => (seen.setIfInBounds i true).getD j false) V w'') (fun v w'' h => ⟨upd V i v, (putAll_upd _ hd i o v V a ho').symm, by rw [e]; exact h⟩)
    unfold wpOp
    simp only [ho]
    split
    · rename_i hw
      rw [if_pos hw] at hF2
      exact .inl hF2
    · rename_i hw
      rw [if_neg hw] at hF2
      exact hF2
  · rintro seen a' w' hall ⟨V, rfl, hI⟩
    exact hend _ V w' (fun i hi => hall i hi) hI
end
end Go.Proofs.YtpfhlhcnmeodbaaGreatDoor
