/-
  P8.2's law: mathematics; a row of texts that grows in a region whose order is open; a disk and a seg whose power goes.
-/
import Derived.Test.YthnagnjcbgcnfaaAlive8
import Derived.Test.YthnagnjcbgcnfaaGreat8
import Derived.Laws.AppendOwnNone
namespace Go.Proofs.Ythnagnjcbgcnfaa
open Go.RowKit Go.BigFrame

theorem textsB_bound : ∀ (T : List (List UInt8)), (∀ t ∈ T, t.length ≤ 4096) → 2 * (textsB T).length ≤ 3 * costT T
  | [], _ => by simp [textsB, costT]
  | t :: T, h => by
    have ih := textsB_bound T fun x hx => h x (by simp [hx])
    have ht := h t (by simp)
    have h2 := dig_length_le 2 t.length (by simp; omega)
    rw [textsB_cons, List.length_append, textB_length, numB_length, costT]
    omega
/-- All texts of the first k batches. -/
def allT (L : List Batch) (k : Nat) : List (List UInt8) := ((L.take k).map (·.list)).flatten
theorem allT_zero (L : List Batch) : allT L 0 = [] := by simp [allT]
theorem allT_next {L : List Batch} {k : Nat} (h : k < L.length) : allT L (k + 1) = allT L k ++ L[k].list := by
  rw [allT, allT, List.take_succ_eq_append_getElem h, List.map_append, List.flatten_append]
  simp
theorem cost_allT {L : List Batch} : ∀ {k : Nat}, k ≤ L.length → costT (allT L k) = costB (L.take k)
  | 0, _ => by simp [allT, costT, costB]
  | k + 1, h => by rw [allT_next (by omega), costT_append, cost_allT (by omega), costB_take (by omega)]
theorem costT_mem {T : List (List UInt8)} {t : List UInt8} (h : t ∈ T) : t.length ≤ costT T := by
  induction T with
  | nil => cases h
  | cons x T ih =>
    rcases List.mem_cons.1 h with rfl | h
    · simp only [costT]; omega
    · have := ih h
      simp only [costT]; omega
theorem great8_not {L : List Batch} (h : great8N L = false) : L.length ≤ 60 ∧ costB L ≤ 4096 := by
  simp only [great8N, Bool.or_eq_false_iff, decide_eq_false_iff_not] at h
  omega
theorem allT_fits {L : List Batch} (h : costB L ≤ 4096) {k : Nat} (hk : k ≤ L.length) : (textsB (allT L k)).length ≤ 7424 ∧ (∀ t ∈ allT L k, t.length ≤ 4096) ∧ (allT L k).length ≤ 4096 := by
  have hc := cost_allT hk
  have hle := costB_le L k
  have ht : ∀ t ∈ allT L k, t.length ≤ 4096 := fun t ht => by have := costT_mem ht; omega
  have hb := textsB_bound (allT L k) ht
  have hn : ∀ T : List (List UInt8), T.length ≤ costT T := fun T => by
    induction T with
    | nil => simp [costT]
    | cons x T ih => simp only [List.length_cons, costT]; omega
  have := hn (allT L k)
  exact ⟨by omega, ht, by omega⟩

/-! ### A row of texts that grows -/
def OwnAt (s : Nat → Bool) (V : Nat → Value) (B i j : Nat) (S : List Value) (w : World) : Prop := s i = true → s j = false → w.ownsRow B 9 1 (V i) S.length S
theorem OwnAt.none {V : Nat → Value} {B i j : Nat} {S : List Value} {w : World} : OwnAt (fun _ => false) V B i j S w := fun h => by cases h
theorem OwnAt.ne {s : Nat → Bool} {V : Nat → Value} {B i j k : Nat} {S : List Value} {w w' : World} {u : Value} (h : OwnAt s V B i j S w) (hi : i ≠ k) (hj : j ≠ k) (hb : Below w.heap.size w w') : OwnAt (fun n => s n || n == k) (upd V k u) B i j S w' := fun h1 h2 => by
  rw [upd_ne V u hi]
  refine World.ownsRow.kept (row := Option.none) (h (seen_ne hi h1) ?_) ⟨hb.os, hb.tape, hb.output, hb.size, fun i hi _ => hb.block i hi⟩ ?_
  · have e : (s j || j == k) = s j := by simp [hj]
    rw [← e]; exact h2
  · cases (V i).ownBlock with
    | none => exact .inl rfl
    | some g => exact .inr (by simp)
theorem OwnAt.gone {s : Nat → Bool} {V : Nat → Value} {B i j : Nat} {S : List Value} {w' : World} {u : Value} : OwnAt (fun n => s n || n == j) (upd V j u) B i j S w' := fun _ h2 => by
  have e : (s j || j == j) = true := by simp
  exact absurd (show (s j || j == j) = false from h2) (by rw [e]; decide)
theorem OwnAt.same {s : Nat → Bool} {V : Nat → Value} {B i j : Nat} {S : List Value} {w' : World} {u : Value} (h : w'.ownsRow B 9 1 u S.length S) : OwnAt (fun n => s n || n == i) (upd V i u) B i j S w' := fun _ _ => by
  rw [upd_same]
  exact h
theorem OwnAt.early {s : Nat → Bool} {V : Nat → Value} {B i j k : Nat} {S : List Value} {w' : World} {u : Value} (hu : s i = false) (hne : i ≠ k) : OwnAt (fun n => s n || n == k) (upd V k u) B i j S w' := fun h1 _ => by
  have := seen_ne hne h1
  rw [hu] at this
  cases this
theorem OwnAt.past {s : Nat → Bool} {V : Nat → Value} {B i j k : Nat} {S : List Value} {w' : World} {u : Value} (hj : s j = true) : OwnAt (fun n => s n || n == k) (upd V k u) B i j S w' := fun _ h2 => by
  have e : (s j || j == k) = true := by rw [hj]; rfl
  exact absurd (show (s j || j == k) = false from h2) (by rw [e]; decide)
def OwnIn (s : Nat → Bool) (V : Nat → Value) (B i : Nat) (S : List Value) (w : World) : Prop := s i = true → w.ownsRow B 9 1 (V i) S.length S
theorem OwnIn.none {V : Nat → Value} {B i : Nat} {S : List Value} {w : World} : OwnIn (fun _ => false) V B i S w := fun h => by cases h
theorem OwnIn.ne {s : Nat → Bool} {V : Nat → Value} {B i k : Nat} {S : List Value} {w w' : World} {u : Value} (h : OwnIn s V B i S w) (hi : i ≠ k) (hb : Below w.heap.size w w') : OwnIn (fun n => s n || n == k) (upd V k u) B i S w' := fun h1 => by
  rw [upd_ne V u hi]
  refine World.ownsRow.kept (row := Option.none) (h (seen_ne hi h1)) ⟨hb.os, hb.tape, hb.output, hb.size, fun i hi _ => hb.block i hi⟩ ?_
  cases (V i).ownBlock with
  | none => exact .inl rfl
  | some g => exact .inr (by simp)
theorem OwnIn.same {s : Nat → Bool} {V : Nat → Value} {B i : Nat} {S : List Value} {w' : World} {u : Value} (h : w'.ownsRow B 9 1 u S.length S) : OwnIn (fun n => s n || n == i) (upd V i u) B i S w' := fun _ => by
  rw [upd_same]
  exact h
theorem OwnIn.early {s : Nat → Bool} {V : Nat → Value} {B i k : Nat} {S : List Value} {w' : World} {u : Value} (hu : s i = false) (hne : i ≠ k) : OwnIn (fun n => s n || n == k) (upd V k u) B i S w' := fun h1 => by
  have := seen_ne hne h1
  rw [hu] at this
  cases this
/-- An empty literal. -/
theorem op_build_none {P : Program} {o : Oper} {a : Act} {w : World} {K : Act → World → Prop} {Q : Exit → Act → World → Prop} (t e : TypeId) (ho : o.op = .buildSlice t 0 #[])
    (hr : ∀ w, (Instr.buildSlice t 0 #[]).run P w = .ok (.slice (some ⟨w.heap.size, 0, none⟩) 0 0) (w.alloc (.cells #[] e)))
    (h : K (a.put o.dst (.slice (some ⟨w.heap.size, 0, none⟩) 0 0)) (w.alloc (.cells #[] e))) : OpWp P o a w K Q := by
  refine ⟨?_⟩
  unfold Oper.wp execOp
  simp only [ho, List.map_toArray, List.map_nil, Sem.run_bind, Sem.run_pure, hr, Result.andThen_ok]
  exact h
/-- Texts appended to a row of the call's own. -/
theorem op_append_strs {P : Program} {o : Oper} {a : Act} {w : World} {K : Act → World → Prop} {Q : Exit → Act → World → Prop} (s x : Operand) (t e : TypeId) (ho : o.op = .call { callee := .builtin .append, args := #[s, x], argTypes := #[t, t] })
    (bytes : Nat) (hby : bytes ≤ 1024) (ht : P.underlying t = some (.slice e)) (hinfo : (P.info? e).map (fun i => (i.zero, i.size, i.bytes)) = some (some (.string ⟨#[]⟩), 1, bytes))
    (B : Nat) (v : Value) (S : List Value) (L : List (List UInt8)) (so : Option Addr) (sc : Nat) (hs : a.eval s = v) (hown : w.ownsRow B e 1 v S.length S) (hx : a.eval x = .slice so L.length sc) (hL : StrsAt so L w) (hnil : so = none → sc = 0)
    (h63 : S.length + L.length ≤ 1000000) (hB : B ≤ w.heap.size)
    (h : ∀ v' w', w'.ownsRow B e 1 v' (S ++ strs L).length (S ++ strs L) → Below B w w' → K (a.put o.dst v') w') : OpWp P o a w K Q := by
  obtain ⟨i, hi, hz0, hz1, hz2⟩ := info_parts hinfo
  cases so with
  | none =>
    obtain rfl := hnil rfl
    have hm : L = [] := by
      rcases hL with h | ⟨b, o, h, _⟩
      · exact h
      · cases h
    subst hm
    have hrun := run_append_owned_none (P := P) (w := w) B t o.type e i 1 ht hi v S.length S hown
    refine ⟨?_⟩
    unfold Oper.wp
    simp [execOp, ho, resolve, invoke, builtin, hs, hx, hrun, Result.andThen]
    exact h v w (by simpa [strs] using hown) (Below.refl _ _)
  | some ad =>
    obtain ⟨v', w', hr, h2, h3, _, _⟩ := run_append_own_at (P := P) w B t o.type e i (.string ⟨#[]⟩) 1 bytes ht hi hz0 hz1 hz2 rfl (by decide) v S.length S hown ad L.length sc (strs L) (by rw [strs_length, Nat.mul_one]) (fun j u hj => by
      have hjl : j < L.length := by
        have := (List.getElem?_eq_some_iff.1 hj).1
        rwa [strs_length] at this
      rcases hL with h | ⟨b, o, h, _, hc⟩
      · rw [h] at hjl; cases hjl
      · obtain rfl := Option.some.inj h
        rw [Addr.add_mid, hc j hjl, ← hj, strs, List.getElem?_map, List.getElem?_eq_getElem hjl]
        rfl) (fun u hu => by
      simp only [strs, List.mem_map] at hu
      obtain ⟨_, _, rfl⟩ := hu
      rfl) (by unfold maxLen; omega) (Nat.le_trans (Nat.mul_le_mul h63 hby) (by decide)) hB
    refine ⟨?_⟩
    unfold Oper.wp execOp
    simp only [ho, resolve, invoke, builtin, Sem.run_bind, Sem.run_pure, Result.andThen_ok, List.map_toArray, List.map_cons, List.map_nil, hs, hx, hr]
    refine h v' w' ?_ ((Below.refl B w).grown h3 hB (fun k hk => (World.ownsRow.lt hown k hk).1))
    rw [List.length_append, strs_length]
    exact h2
/-- A row of texts of the call's own reads as texts. -/
theorem strs_own {B : Nat} {v : Value} {T : List (List UInt8)} {w : World} (h : w.ownsRow B 9 1 v (strs T).length (strs T)) : ∃ ao c, v = .slice ao T.length c ∧ StrsAt ao T w ∧ (ao = none → c = 0) ∧ ∀ a, ao = some a → B ≤ a.block := by
  rw [strs_length] at h
  rcases h.2 with ⟨hv, h0⟩ | ⟨g, cap, cur, hv, hb, hg, _⟩
  · exact ⟨none, 0, by rw [hv, h0], .inl (List.length_eq_zero_iff.1 h0), fun _ => rfl, fun a ha => by cases ha⟩
  · refine ⟨some ⟨g, 0, none⟩, cap, hv, ?_, (fun h => by cases h), (fun a ha => by rw [← Option.some.inj ha]; exact hb)⟩
    rw [hv] at h
    exact strsAt_own h

/-! ### What is done to a disk beside a seg -/
theorem Turn.orL {O O' P : Nat → Prop} {w w' : World} (h : Turn O O' w w') : Turn (OrO O P) (OrO O' P) w w' :=
  ⟨⟨h.only.os, h.only.tape, h.only.output, h.only.size, fun k hk hO => h.only.block k hk (fun e => hO (.inl e))⟩, fun b hb => hb.elim (fun h1 => (h.own b h1).imp .inl id) (fun h1 => .inl (.inr h1))⟩
theorem SegL.arm {B : Nat} {w0 : World} {vd vs : Value} {s : DS} {e : Nat} {S : List UInt8} {X : List (Option Addr × List (List UInt8))} {w : World} (h : SegL B w0 vd vs s e S X w) (hf : Fit s 999999) (n : Int) (keep : Nat) (hn : n ≤ 9223372036854775807) (hk : keep < 18446744073709551616) :
    Calls Try.prog 9 #[vd, .int .i64 n, .int .u64 keep] w fun x w' => x = .returned (.tuple #[]) ∧ SegL B w0 vd vs (armS s n keep) e S X w' := by
  obtain ⟨O, P, hd, hs, hap, hO, hX, hb, hB⟩ := h
  refine (dev7_arm O vd s n keep w hd hf hn hk).mono fun x w' hh => ?_
  obtain ⟨hx, O', hd', ht⟩ := hh
  have ht2 := ht.orL (P := P)
  refine ⟨hx, O', P, hd', hs.only ht.only (fun b hb e => hap b e hb), fun b h1 h2 => ?_, fun b h => (ht2.own b h).elim (hO b) (Nat.le_trans hB), hX.turn ht2, Only.toBelow hb ht2.only hO hB, Nat.le_trans hB ht2.only.size⟩
  rcases ht.own b h1 with h3 | h3
  · exact hap b h3 h2
  · have := hs.lt b h2
    omega
theorem LoneD.off {B : Nat} {w0 : World} {vd : Value} {s : DS} {X : List (Option Addr × List (List UInt8))} {w : World} (h : LoneD B w0 vd s X w) (hf : Fit s 999999) (keep : Nat) (hk : keep < 18446744073709551616) :
    Calls Try.prog 11 #[vd, .int .u64 keep] w fun x w' => x = .returned (.tuple #[]) ∧ LoneD B w0 vd (goneS s keep) X w' := by
  obtain ⟨O, hd, hO, hX, hb, hB⟩ := h
  refine (dev7_off O vd s keep w hd hf hk).mono fun x w' hh => ?_
  obtain ⟨hx, O', hd', ht⟩ := hh
  exact ⟨hx, LoneD.step hO hX hb hB hd' ht⟩
theorem LoneD.on {B : Nat} {w0 : World} {vd : Value} {s : DS} {X : List (Option Addr × List (List UInt8))} {w : World} (h : LoneD B w0 vd s X w) (hf : Fit s 999999) :
    Calls Try.prog 12 #[vd] w fun x w' => x = .returned (.tuple #[]) ∧ LoneD B w0 vd (onS s) X w' := by
  obtain ⟨O, hd, hO, hX, hb, hB⟩ := h
  refine (dev7_on O vd s w hd hf).mono fun x w' hh => ?_
  obtain ⟨hx, O', hd', ht⟩ := hh
  exact ⟨hx, LoneD.step hO hX hb hB hd' ht⟩
theorem Live.arm {s : DS} {e : Nat} {S : List UInt8} (h : Live s e S) (n : Int) (keep : Nat) : Live (armS s n keep) e S := ⟨⟨h.ok.safe, h.ok.pend⟩, h.off, h.pend, h.opens⟩
/-- Whatever is kept, it opens to e, S. -/
def Comes8 (s : DS) (e : Nat) (S : List UInt8) : Prop := ∀ keep, (onS (goneS s keep)).off = false ∧ Opens (nowS (onS (goneS s keep))) e S
theorem Live.comes {s : DS} {e : Nat} {S : List UInt8} (h : Live s e S) : Comes8 s e S := fun keep => by
  rw [goneS_on h.off]
  refine ⟨rfl, ?_⟩
  show Opens (applyL [] (keptL keep 0 s.pend s.safe)) e S
  rw [h.pend]
  exact h.opens
theorem Down.comes {s : DS} {e : Nat} {S : List UInt8} (h : Down s e S) : Comes8 s e S := fun keep => by
  rw [goneS, if_pos h.off]
  refine ⟨rfl, ?_⟩
  show Opens (applyL s.pend s.safe) e S
  rw [h.pend]
  exact h.opens
end Go.Proofs.Ythnagnjcbgcnfaa
