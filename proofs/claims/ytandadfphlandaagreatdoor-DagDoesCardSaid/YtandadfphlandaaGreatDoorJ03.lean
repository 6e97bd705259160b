/-
  Joined: The developers' set as mathematics: behind whom who waits, what is free, the heads; it comes to what the document's comes to.; Regions whose order is open: laws; what every layer over digests wants.
-/
import Derived.Deep.Quiet
import Derived.Laws.ResultCell
import Derived.StillTail
import Derived.Test.YtandadfphlandaaGreatDoorJ01
import Derived.Test.YtandadfphlandaaGreatDoorJ02
namespace Go.Proofs.YtandadfphlandaaGreatDoor
open Go.RowKit
theorem cmpN_self : ∀ a : List Nat, cmpN a a = 0
  | [] => by rw [cmpN]; intro a x b y h; cases h
  | a :: x => by rw [cmpN, if_neg (Nat.lt_irrefl _), if_neg (Nat.lt_irrefl _)]; exact cmpN_self x
theorem cmpN_nil (a : List Nat) : cmpN [] a = 0 := by rw [cmpN]; intro a x b y h; cases h
theorem cmpN_nil2 (a : List Nat) : cmpN a [] = 0 := by
  cases a with
  | nil => exact cmpN_nil _
  | cons x a => rw [cmpN]; intro a x b y h h2; cases h2
theorem cmpN_eq : ∀ {a b : List Nat}, a.length = b.length → cmpN a b = 0 → a = b
  | [], [], _, _ => rfl
  | [], _ :: _, h, _ => by cases h
  | _ :: _, [], h, _ => by cases h
  | a :: x, b :: y, h, h2 => by
    rw [cmpN] at h2
    split at h2
    · cases h2
    · split at h2
      · cases h2
      · rw [show a = b by omega, cmpN_eq (by simpa using h) h2]
theorem cmpN_flip : ∀ (a b : List Nat), cmpN a b = -1 ↔ cmpN b a = 1
  | [], b => by rw [cmpN_nil, cmpN_nil2]; decide
  | a :: x, [] => by rw [cmpN_nil, cmpN_nil2]; decide
  | a :: x, b :: y => by
    rw [cmpN, cmpN]
    by_cases h1 : a < b
    · rw [if_pos h1, if_neg (by omega), if_pos h1]; simp
    · rw [if_neg h1]
      by_cases h2 : b < a
      · rw [if_pos h2, if_pos h2]; decide
      · rw [if_neg h2, if_neg h2, if_neg h1]; exact cmpN_flip x y
theorem cmpN_trans : ∀ {a b c : List Nat}, cmpN a b = -1 → cmpN b c = -1 → cmpN a c = -1
  | [], b, _, h, _ => by rw [cmpN_nil] at h; cases h
  | _ :: _, [], _, h, _ => by rw [cmpN_nil2] at h; cases h
  | _ :: _, _ :: _, [], _, h => by rw [cmpN_nil2] at h; cases h
  | a :: x, b :: y, c :: z, h1, h2 => by
    rw [cmpN] at h1 h2 ⊢
    by_cases p1 : a < b
    · by_cases p2 : b < c
      · rw [if_pos (by omega)]
      · rw [if_neg p2] at h2
        by_cases p3 : c < b
        · rw [if_pos p3] at h2; cases h2
        · rw [if_pos (by omega)]
    · rw [if_neg p1] at h1
      by_cases p3 : b < a
      · rw [if_pos p3] at h1; cases h1
      · rw [if_neg p3] at h1
        obtain rfl : a = b := by omega
        by_cases p2 : a < c
        · rw [if_pos p2]
        · rw [if_neg p2] at h2 ⊢
          by_cases p4 : c < a
          · rw [if_pos p4] at h2; cases h2
          · rw [if_neg p4] at h2 ⊢
            exact cmpN_trans h1 h2
theorem cmpN_vals : ∀ (a b : List Nat), cmpN a b = -1 ∨ cmpN a b = 0 ∨ cmpN a b = 1
  | [], b => .inr (.inl (cmpN_nil b))
  | _ :: _, [] => .inr (.inl (cmpN_nil2 _))
  | a :: x, b :: y => by
    rw [cmpN]
    split
    · exact .inl rfl
    · split
      · exact .inr (.inr rfl)
      · exact cmpN_vals x y
theorem cmpN_total {a b : List Nat} (hl : a.length = b.length) (hne : a ≠ b) : cmpN a b = -1 ∨ cmpN b a = -1 := by
  rcases cmpN_vals a b with h | h | h
  · exact .inl h
  · exact absurd (cmpN_eq hl h) hne
  · exact .inr ((cmpN_flip b a).2 h)
theorem cmpN_asym {a b : List Nat} (h : cmpN a b = -1) (k : cmpN b a = -1) : False := by
  have := cmpN_trans h k
  rw [cmpN_self] at this
  cases this
def Rise (L : List (List Nat)) : Prop := L.Pairwise fun a b => cmpN a b = -1
theorem rise_eq {L M : List (List Nat)} (h : Rise L) (k : Rise M) (hp : L.Perm M) : L = M :=
  List.Perm.eq_of_pairwise (fun _ _ _ _ h1 h2 => (cmpN_asym h1 h2).elim) h k hp
theorem insN_perm (n : List Nat) : ∀ L : List (List Nat), (insN n L).Perm (n :: L)
  | [] => List.Perm.refl _
  | x :: r => by
    rw [insN]
    split
    · exact ((insN_perm n r).cons x).trans (List.Perm.swap _ _ _)
    · exact List.Perm.refl _
theorem insN_rise {n : List Nat} (hn : n.length = 32) : ∀ {L : List (List Nat)}, Rise L → (∀ x ∈ L, x.length = 32) → n ∉ L → Rise (insN n L)
  | [], _, _, _ => List.pairwise_singleton _ _
  | x :: r, h, hl, hm => by
    obtain ⟨h1, h2⟩ := List.pairwise_cons.1 h
    rw [insN]
    split
    · rename_i hx
      refine List.pairwise_cons.2 ⟨fun y hy => ?_, insN_rise hn h2 (fun y hy => hl y (List.mem_cons_of_mem _ hy)) (fun e => hm (List.mem_cons_of_mem _ e))⟩
      rcases insN_mem.1 hy with rfl | hy
      · exact hx
      · exact h1 y hy
    · rename_i hx
      have hnx : cmpN n x = -1 := (cmpN_total (by rw [hn, hl x List.mem_cons_self]) (fun e => hm (List.mem_cons.2 (.inl e)))).resolve_right hx
      refine List.pairwise_cons.2 ⟨fun y hy => ?_, h⟩
      rcases List.mem_cons.1 hy with rfl | hy
      · exact hnx
      · exact cmpN_trans hnx (h1 y hy)
theorem fold_ins_perm : ∀ (L out : List (List Nat)), (L.foldl (fun out n => insN n out) out).Perm (out ++ L)
  | [], out => by rw [List.append_nil]; exact List.Perm.refl _
  | n :: L, out => (fold_ins_perm L (insN n out)).trans (((insN_perm n out).append_right L).trans List.perm_middle.symm)
theorem risingN_perm (L : List (List Nat)) : (risingN L).Perm L := fold_ins_perm L []
theorem fold_ins_rise : ∀ {L out : List (List Nat)}, Rise out → (∀ x ∈ out ++ L, x.length = 32) → (out ++ L).Nodup → Rise (L.foldl (fun out n => insN n out) out)
  | [], _, h, _, _ => h
  | n :: L, out, h, hl, hd => by
    rw [List.foldl_cons]
    have hn : n ∉ out := fun hm => by
      rw [List.nodup_append] at hd
      exact hd.2.2 n hm n List.mem_cons_self rfl
    have hp : (insN n out ++ L).Perm (out ++ n :: L) := ((insN_perm n out).append_right L).trans List.perm_middle.symm
    refine fold_ins_rise (insN_rise (hl n (by simp)) h (fun x hx => hl x (by simp [hx])) hn) (fun x hx => hl x (hp.mem_iff.1 hx)) (hp.nodup_iff.2 hd)
theorem risingN_rise {L : List (List Nat)} (hl : ∀ x ∈ L, x.length = 32) (hd : L.Nodup) : Rise (risingN L) := fold_ins_rise List.Pairwise.nil hl hd
theorem rising_of {L M : List (List Nat)} (h : Rise L) (hp : L.Perm M) (hl : ∀ x ∈ M, x.length = 32) (hd : M.Nodup) : L = risingN M :=
  rise_eq h (risingN_rise hl hd) (hp.trans (risingN_perm M).symm)
theorem best_none {L : List (List Nat)} {W : List OpN} : ∀ (k : Nat), bestTo L W k = none → ∀ j o, j < k → W[j]? = some o → wholeN L o = false
  | 0, _, _, _, h, _ => by omega
  | k + 1, h, j, o, hj, ho => by
    rw [bestTo, bestStep] at h
    cases hk : W[k]? with
    | none =>
      rw [hk] at h
      by_cases hjk : j = k
      · subst hjk; rw [hk] at ho; cases ho
      · exact best_none k h j o (by omega) ho
    | some p =>
      rw [hk] at h
      simp only at h
      split at h
      · split at h
        · cases h
        · split at h <;> cases h
      · rename_i hw
        by_cases hjk : j = k
        · subst hjk
          rw [hk] at ho
          cases ho
          simpa using hw
        · exact best_none k h j o (by omega) ho
theorem best_some {L : List (List Nat)} {W : List OpN} : ∀ (k i : Nat), bestTo L W k = some i → ∃ o, W[i]? = some o ∧ wholeN L o = true ∧ ∀ j p, j < k → W[j]? = some p → wholeN L p = true → nameN p = nameN o ∨ cmpN (nameN o) (nameN p) = -1
  | 0, _, h => by cases h
  | k + 1, i, h => by
    rw [bestTo, bestStep] at h
    cases hk : W[k]? with
    | none =>
      rw [hk] at h
      obtain ⟨o, h1, h2, h3⟩ := best_some k i h
      refine ⟨o, h1, h2, fun j p hj hp hw => ?_⟩
      by_cases hjk : j = k
      · subst hjk; rw [hk] at hp; cases hp
      · exact h3 j p (by omega) hp hw
    | some q =>
      rw [hk] at h
      simp only at h
      split at h
      · rename_i hq
        split at h
        · rename_i hb
          cases h
          refine ⟨q, hk, hq, fun j p hj hp hw => ?_⟩
          by_cases hjk : j = k
          · subst hjk; rw [hk] at hp; cases hp; exact .inl rfl
          · rw [best_none k hb j p (by omega) hp] at hw; cases hw
        · rename_i j' hb
          obtain ⟨o, h1, h2, h3⟩ := best_some k j' hb
          have hg : W.getD j' q = o := by rw [List.getD_eq_getElem?_getD, h1]; rfl
          rw [hg] at h
          split at h
          · rename_i hc
            cases h
            refine ⟨q, hk, hq, fun j p hj hp hw => ?_⟩
            by_cases hjk : j = k
            · subst hjk; rw [hk] at hp; cases hp; exact .inl rfl
            · rcases h3 j p (by omega) hp hw with e | e
              · exact .inr (e ▸ hc)
              · exact .inr (cmpN_trans hc e)
          · rename_i hc
            cases h
            refine ⟨o, h1, h2, fun j p hj hp hw => ?_⟩
            by_cases hjk : j = k
            · subst hjk; rw [hk] at hp; cases hp
              by_cases hne : nameN q = nameN o
              · exact .inl hne
              · exact .inr ((cmpN_total (by rw [nameN_len, nameN_len]) (Ne.symm hne)).resolve_right hc)
            · exact h3 j p (by omega) hp hw
      · rename_i hq
        obtain ⟨o, h1, h2, h3⟩ := best_some k i h
        refine ⟨o, h1, h2, fun j p hj hp hw => ?_⟩
        by_cases hjk : j = k
        · subst hjk; rw [hk] at hp; cases hp; exact absurd hw hq
        · exact h3 j p (by omega) hp hw
abbrev Bh := List (List Nat × List (List Nat))
def flatB (M : Bh) : List (List Nat) := M.flatMap (·.2)
def atB (M : Bh) (p : List Nat) : List (List Nat) := atE M [] p
theorem flatB_append (A B : Bh) : flatB (A ++ B) = flatB A ++ flatB B := List.flatMap_append
theorem flatB_put {M : Bh} (hd : (M.map (·.1)).Nodup) (p m : List Nat) : (flatB (putE M p (atB M p ++ [m]))).Perm (m :: flatB M) := by
  by_cases hp : p ∈ M.map (·.1)
  · obtain ⟨l, hl⟩ := lookup_some hp
    obtain ⟨A, B, h1, h2, _⟩ := split_all hd hl
    have ha : atB M p = l := by rw [atB, atE, hl]; rfl
    rw [ha, h2, h1, flatB_append, flatB_append]
    show (flatB A ++ ((l ++ [m]) ++ flatB B)).Perm (m :: (flatB A ++ (l ++ flatB B)))
    rw [List.append_assoc, List.singleton_append, ← List.append_assoc, ← List.append_assoc]
    exact List.perm_middle
  · have ha : atB M p = [] := by rw [atB, atE, lookup_none hp]; rfl
    rw [ha, putE_new hp, flatB_append]
    show (flatB M ++ ([m] ++ [])).Perm (m :: flatB M)
    rw [List.append_nil]
    exact List.perm_append_singleton _ _
theorem flatB_del {M : Bh} (hd : (M.map (·.1)).Nodup) (p : List Nat) : (flatB M).Perm (atB M p ++ flatB (delE M p)) := by
  by_cases hp : p ∈ M.map (·.1)
  · obtain ⟨l, hl⟩ := lookup_some hp
    obtain ⟨A, B, h1, _, h3, _⟩ := split_all hd hl
    have ha : atB M p = l := by rw [atB, atE, hl]; rfl
    rw [ha, h3, flatB_append]
    conv => lhs; rw [h1, flatB_append]
    show (flatB A ++ (l ++ flatB B)).Perm (l ++ (flatB A ++ flatB B))
    rw [← List.append_assoc, ← List.append_assoc]
    exact List.perm_append_comm.append_right _
  · have ha : atB M p = [] := by rw [atB, atE, lookup_none hp]; rfl
    rw [ha, del_same hp]
    exact List.Perm.refl _
theorem mem_flatB {M : Bh} {m : List Nat} : m ∈ flatB M ↔ ∃ q ∈ M, m ∈ q.2 := List.mem_flatMap
theorem mem_put {M : Bh} (hd : (M.map (·.1)).Nodup) {p : List Nat} {l : List (List Nat)} {q : List Nat × List (List Nat)} (h : q ∈ putE M p l) : q = (p, l) ∨ (q ∈ M ∧ q.1 ≠ p) := by
  by_cases hp : p ∈ M.map (·.1)
  · obtain ⟨x, hx⟩ := lookup_some hp
    obtain ⟨A, B, h1, h2, _, h4⟩ := split_all hd hx
    rw [h2, List.mem_append, List.mem_cons] at h
    have key : q ∈ A ++ B → q ∈ M ∧ q.1 ≠ p := fun hq => ⟨by rw [h1, List.mem_append, List.mem_cons]; exact (List.mem_append.1 hq).imp id .inr, fun e => h4 (List.mem_map.2 ⟨q, hq, e⟩)⟩
    rcases h with h | h | h
    · exact .inr (key (List.mem_append.2 (.inl h)))
    · exact .inl h
    · exact .inr (key (List.mem_append.2 (.inr h)))
  · rw [putE_new hp, List.mem_append, List.mem_singleton] at h
    rcases h with h | h
    · exact .inr ⟨h, fun e => hp (List.mem_map.2 ⟨q, h, e⟩)⟩
    · exact .inl h
theorem mem_del {M : Bh} {p : List Nat} {q : List Nat × List (List Nat)} : q ∈ delE M p ↔ q ∈ M ∧ q.1 ≠ p := by simp [delE]
theorem atB_mem {M : Bh} {p m : List Nat} (h : m ∈ atB M p) : ∃ l, (p, l) ∈ M ∧ m ∈ l := by
  rw [atB, atE] at h
  cases hl : M.lookup p with
  | none => rw [hl] at h; cases h
  | some l => rw [hl] at h; exact ⟨l, lookup_mem hl, h⟩
theorem map_inj_of_nodup {α β : Type} {f : α → β} {W : List α} (h : (W.map f).Nodup) {a b : α} (ha : a ∈ W) (hb : b ∈ W) (he : f a = f b) : a = b := by
  obtain ⟨i, hi, rfl⟩ := List.getElem_of_mem ha
  obtain ⟨j, hj, rfl⟩ := List.getElem_of_mem hb
  have : (W.map f)[i]? = (W.map f)[j]? := by simp [List.getElem?_map, List.getElem?_eq_getElem hi, List.getElem?_eq_getElem hj, he]
  have := (List.getElem?_inj (by simpa using hi) h).1 this
  subst this
  rfl
structure DInv (s : DagN) (hs : List (List Nat)) (M : Bh) (R F : List (List Nat)) : Prop where
  nodup : (s.names ++ s.waits).Nodup
  perm : (flatB M ++ (R ++ F)).Perm s.waits
  keys : (M.map (·.1)).Nodup
  wait : ∀ q ∈ M, q.1 ∉ s.names ∧ ∀ m ∈ q.2, ∃ o ∈ s.wait, nameN o = m ∧ q.1 ∈ o.preds
  free : ∀ m ∈ F, ∃ o ∈ s.wait, nameN o = m ∧ wholeN s.names o = true
  closed : ∀ o ∈ s.ops, ∀ p ∈ o.preds, p ∈ s.names
  hnodup : hs.Nodup
  heads : ∀ n, n ∈ hs ↔ n ∈ s.names ∧ ∀ o ∈ s.ops, n ∉ o.preds
section
variable {s : DagN} {hs : List (List Nat)} {M : Bh} {R F : List (List Nat)}
theorem DInv.new : DInv DagN.new [] [] [] [] := ⟨List.nodup_nil, List.Perm.refl _, List.nodup_nil, (fun q hq => by cases hq), (fun q hq => by cases hq), (fun q hq => by cases hq), List.nodup_nil, fun n => by simp [DagN.new, DagN.names]⟩
theorem DInv.nodupN (h : DInv s hs M R F) : s.names.Nodup := (List.nodup_append.1 h.nodup).1
theorem DInv.nodupW (h : DInv s hs M R F) : s.waits.Nodup := (List.nodup_append.1 h.nodup).2.1
theorem DInv.apart (h : DInv s hs M R F) {n : List Nat} (h1 : n ∈ s.names) (h2 : n ∈ s.waits) : False := (List.nodup_append.1 h.nodup).2.2 n h1 n h2 rfl
theorem DInv.op (h : DInv s hs M R F) {m : List Nat} (hm : m ∈ R ++ F) : ∃ o ∈ s.wait, nameN o = m := by
  have : m ∈ s.waits := h.perm.mem_iff.1 (List.mem_append.2 (.inr hm))
  obtain ⟨o, ho, rfl⟩ := List.mem_map.1 this
  exact ⟨o, ho, rfl⟩
theorem DInv.one (h : DInv s hs M R F) {o p : OpN} (ho : o ∈ s.wait) (hp : p ∈ s.wait) (he : nameN o = nameN p) : o = p := map_inj_of_nodup h.nodupW ho hp he
theorem DInv.permF {F' : List (List Nat)} (h : DInv s hs M R F) (hp : F.Perm F') : DInv s hs M R F' :=
  ⟨h.nodup, ((hp.symm.append_left R).append_left _).trans h.perm, h.keys, h.wait, fun m hm => h.free m (hp.mem_iff.2 hm), h.closed, h.hnodup, h.heads⟩
theorem DInv.lenF (h : DInv s hs M R F) : F.length ≤ s.wait.length := by
  have := h.perm.length_eq
  simp only [List.length_append, DagN.waits, List.length_map] at this
  omega
theorem DInv.step_wait {m p : List Nat} (h : DInv s hs M (m :: R) F) {o : OpN} (ho : o ∈ s.wait) (hn : nameN o = m) (hp : p ∈ o.preds) (hnot : p ∉ s.names) : DInv s hs (putE M p (atB M p ++ [m])) R F := by
  refine ⟨h.nodup, ?_, putE_nodup h.keys _ _, ?_, h.free, h.closed, h.hnodup, h.heads⟩
  · refine ((flatB_put h.keys p m).append_right _).trans (List.Perm.trans ?_ h.perm)
    rw [List.cons_append]
    exact (List.perm_middle (a := m) (l₁ := flatB M) (l₂ := R ++ F)).symm
  · intro q hq
    rcases mem_put h.keys hq with rfl | ⟨hq, _⟩
    · refine ⟨hnot, fun x hx => ?_⟩
      rcases List.mem_append.1 hx with hx | hx
      · obtain ⟨l, hl, hxl⟩ := atB_mem hx
        exact (h.wait _ hl).2 x hxl
      · obtain rfl := List.mem_singleton.1 hx
        exact ⟨o, ho, hn, hp⟩
    · exact h.wait q hq
theorem DInv.step_free {m : List Nat} (h : DInv s hs M (m :: R) F) {o : OpN} (ho : o ∈ s.wait) (hn : nameN o = m) (hw : wholeN s.names o = true) : DInv s hs M R (m :: F) := by
  refine ⟨h.nodup, ?_, h.keys, h.wait, ?_, h.closed, h.hnodup, h.heads⟩
  · refine List.Perm.trans ?_ h.perm
    refine List.Perm.append_left _ ?_
    exact List.perm_middle
  · intro x hx
    rcases List.mem_cons.1 hx with rfl | hx
    · exact ⟨o, ho, hn, hw⟩
    · exact h.free x hx
theorem wholeN_mono {L L' : List (List Nat)} {o : OpN} (h : wholeN L o = true) (k : ∀ x ∈ L, x ∈ L') : wholeN L' o = true := by
  rw [wholeN, List.all_eq_true] at h ⊢
  intro p hp
  exact decide_eq_true (k p (of_decide_eq_true (h p hp)))
theorem wholeN_iff {L : List (List Nat)} {o : OpN} : wholeN L o = true ↔ ∀ p ∈ o.preds, p ∈ L := by
  rw [wholeN, List.all_eq_true]
  exact ⟨fun h p hp => of_decide_eq_true (h p hp), fun h p hp => decide_eq_true (h p hp)⟩
theorem DInv.add {o : OpN} (h : DInv s hs M [] F) (hn : nameN o ∉ s.names) (hw : nameN o ∉ s.waits) (hwh : wholeN s.names o = true) :
    DInv ⟨s.ops ++ [o], s.wait⟩ ((hs.filter fun n => !decide (n ∈ o.preds)) ++ [nameN o]) (delE M (nameN o)) (atB M (nameN o)) F := by
  have hnames : DagN.names ⟨s.ops ++ [o], s.wait⟩ = s.names ++ [nameN o] := by simp [DagN.names]
  have hwaits : DagN.waits ⟨s.ops ++ [o], s.wait⟩ = s.waits := rfl
  have hwh2 := wholeN_iff.1 hwh
  refine ⟨?_, ?_, delE_nodup h.keys _, ?_, ?_, ?_, ?_, ?_⟩
  · rw [hnames, hwaits]
    have := h.nodup
    rw [List.nodup_append] at this ⊢
    refine ⟨List.nodup_append.2 ⟨this.1, by simp, fun a ha b hb e => ?_⟩, this.2.1, fun a ha b hb e => ?_⟩
    · obtain rfl := List.mem_singleton.1 hb
      exact hn (e ▸ ha)
    · rcases List.mem_append.1 ha with ha | ha
      · exact this.2.2 a ha b hb e
      · obtain rfl := List.mem_singleton.1 ha
        exact hw (e ▸ hb)
  · rw [hwaits]
    refine List.Perm.trans ?_ h.perm
    rw [List.nil_append, ← List.append_assoc]
    refine List.Perm.append_right _ ?_
    exact List.perm_append_comm.trans (flatB_del h.keys _).symm
  · intro q hq
    obtain ⟨hq1, hq2⟩ := mem_del.1 hq
    obtain ⟨h1, h2⟩ := h.wait q hq1
    refine ⟨?_, h2⟩
    rw [hnames, List.mem_append, List.mem_singleton, not_or]
    exact ⟨h1, hq2⟩
  · intro m hm
    obtain ⟨p, h1, h2, h3⟩ := h.free m hm
    exact ⟨p, h1, h2, wholeN_mono h3 (fun x hx => by rw [hnames]; exact List.mem_append.2 (.inl hx))⟩
  · intro x hx p hp
    rw [hnames]
    rcases List.mem_append.1 hx with hx | hx
    · exact List.mem_append.2 (.inl (h.closed x hx p hp))
    · obtain rfl := List.mem_singleton.1 hx
      exact List.mem_append.2 (.inl (hwh2 p hp))
  · refine List.nodup_append.2 ⟨List.filter_sublist.nodup h.hnodup, by simp, fun a ha b hb e => ?_⟩
    obtain rfl := List.mem_singleton.1 hb
    exact hn (e ▸ ((h.heads a).1 (List.mem_filter.1 ha).1).1)
  · intro n
    rw [hnames, List.mem_append, List.mem_filter, List.mem_singleton, List.mem_append, List.mem_singleton, h.heads n]
    simp only [Bool.not_eq_true', decide_eq_false_iff_not]
    constructor
    · rintro (⟨⟨h1, h2⟩, h3⟩ | rfl)
      · refine ⟨.inl h1, fun x hx => ?_⟩
        rcases List.mem_append.1 hx with hx | hx
        · exact h2 x hx
        · obtain rfl := List.mem_singleton.1 hx
          exact h3
      · refine ⟨.inr rfl, fun x hx hp => ?_⟩
        rcases List.mem_append.1 hx with hx | hx
        · exact hn (h.closed x hx _ hp)
        · obtain rfl := List.mem_singleton.1 hx
          exact hn (hwh2 _ hp)
    · rintro ⟨h1 | rfl, h2⟩
      · exact .inl ⟨⟨h1, fun x hx => h2 x (List.mem_append.2 (.inl hx))⟩, h2 o (by simp)⟩
      · exact .inr rfl
theorem DInv.cover (h : DInv s hs M R F) {o : OpN} (ho : o ∈ s.wait) (hw : wholeN s.names o = true) : nameN o ∈ R ++ F := by
  have hm : nameN o ∈ flatB M ++ (R ++ F) := h.perm.mem_iff.2 (List.mem_map.2 ⟨o, ho, rfl⟩)
  rcases List.mem_append.1 hm with hm | hm
  · exfalso
    obtain ⟨q, hq, hmq⟩ := mem_flatB.1 hm
    obtain ⟨h1, h2⟩ := h.wait q hq
    obtain ⟨p, hp, he, hpp⟩ := h2 _ hmq
    obtain rfl := h.one hp ho he
    exact h1 (wholeN_iff.1 hw _ hpp)
  · exact hm
theorem DInv.best_none (h : DInv s hs M [] []) : bestN s.names s.wait = none := by
  cases hb : bestN s.names s.wait with
  | none => rfl
  | some i =>
    obtain ⟨o, h1, h2, _⟩ := best_some _ _ hb
    have := h.cover (List.mem_of_getElem? h1) h2
    cases this
theorem DInv.best (h : DInv s hs M [] F) {m : List Nat} (hm : m ∈ F) (hle : ∀ x ∈ F, x = m ∨ cmpN m x = -1) : ∃ i o, bestN s.names s.wait = some i ∧ s.wait[i]? = some o ∧ nameN o = m ∧ wholeN s.names o = true := by
  obtain ⟨o, ho, hn, hw⟩ := h.free m hm
  obtain ⟨j, hj, hjo⟩ := List.getElem_of_mem ho
  cases hb : bestN s.names s.wait with
  | none =>
    have := Go.Proofs.YtandadfphlandaaGreatDoor.best_none _ hb j o hj (by rw [List.getElem?_eq_getElem hj, hjo])
    rw [hw] at this
    cases this
  | some i =>
    obtain ⟨p, h1, h2, h3⟩ := best_some _ _ hb
    refine ⟨i, p, rfl, h1, ?_, h2⟩
    have hp : nameN p ∈ F := by simpa using h.cover (List.mem_of_getElem? h1) h2
    rcases h3 j o hj (by rw [List.getElem?_eq_getElem hj, hjo]) hw with e | e
    · rw [← e, hn]
    · rcases hle _ hp with e2 | e2
      · exact e2
      · rw [hn] at e
        exact (cmpN_asym e e2).elim
theorem mem_erase_of {W : List OpN} {i : Nat} {o p : OpN} (hi : W[i]? = some o) (hp : p ∈ W) (hne : nameN p ≠ nameN o) : p ∈ W.eraseIdx i := by
  rw [List.mem_eraseIdx_iff_getElem?]
  obtain ⟨j, hj, rfl⟩ := List.getElem_of_mem hp
  refine ⟨j, ?_, List.getElem?_eq_getElem hj⟩
  rintro rfl
  rw [List.getElem?_eq_getElem hj] at hi
  cases hi
  exact hne rfl
theorem cons_erase_perm {α : Type} : ∀ {l : List α} {i : Nat} (h : i < l.length), (l[i] :: l.eraseIdx i).Perm l
  | a :: l, 0, _ => List.Perm.refl _
  | a :: l, i + 1, h => (List.Perm.swap _ _ _).trans ((cons_erase_perm (l := l) (i := i) (by simpa using h)).cons a)
theorem DInv.pop {m : List Nat} (h : DInv s hs M [] (m :: F)) {i : Nat} {o : OpN} (hi : s.wait[i]? = some o) (hn : nameN o = m) :
    DInv ⟨s.ops, s.wait.eraseIdx i⟩ hs M [] F ∧ m ∉ s.names ∧ m ∉ DagN.waits ⟨s.ops, s.wait.eraseIdx i⟩ := by
  have hlt := (List.getElem?_eq_some_iff.1 hi).1
  have hw : DagN.waits ⟨s.ops, s.wait.eraseIdx i⟩ = s.waits.eraseIdx i := by
    simp only [DagN.waits]
    exact (ChangeMaps.map_eraseIdx nameN s.wait i)
  have hil : i < s.waits.length := by simpa [DagN.waits] using hlt
  have hg : s.waits[i] = m := by
    have : s.waits[i]? = some m := by rw [DagN.waits, List.getElem?_map, hi, Option.map_some, hn]
    rw [List.getElem?_eq_getElem hil] at this
    exact Option.some.inj this
  have hp : (m :: s.waits.eraseIdx i).Perm s.waits := hg ▸ cons_erase_perm hil
  have hmn : m ∉ s.waits.eraseIdx i := (List.nodup_cons.1 (hp.nodup_iff.2 h.nodupW)).1
  have hperm : (flatB M ++ ([] ++ F)).Perm (s.waits.eraseIdx i) := by
    refine List.Perm.cons_inv (a := m) ?_
    refine List.Perm.trans ?_ (h.perm.trans hp.symm)
    exact List.perm_middle.symm
  refine ⟨⟨?_, by rw [hw]; exact hperm, h.keys, ?_, ?_, h.closed, h.hnodup, h.heads⟩, fun e => h.apart e (by rw [← hg]; exact List.getElem_mem hil), by rw [hw]; exact hmn⟩
  · rw [hw]
    exact (List.Sublist.append_left (List.eraseIdx_sublist _ _) _).nodup h.nodup
  · intro q hq
    obtain ⟨h1, h2⟩ := h.wait q hq
    refine ⟨h1, fun x hx => ?_⟩
    obtain ⟨p, hp1, hp2, hp3⟩ := h2 x hx
    refine ⟨p, mem_erase_of hi hp1 ?_, hp2, hp3⟩
    rw [hp2, hn]
    rintro rfl
    exact hmn (hperm.mem_iff.1 (List.mem_append.2 (.inl (mem_flatB.2 ⟨q, hq, hx⟩))))
  · intro x hx
    obtain ⟨p, hp1, hp2, hp3⟩ := h.free x (List.mem_cons_of_mem _ hx)
    refine ⟨p, mem_erase_of hi hp1 ?_, hp2, hp3⟩
    rw [hp2, hn]
    rintro rfl
    exact hmn (hperm.mem_iff.1 (List.mem_append.2 (.inr (by simpa using hx))))
theorem DInv.come (h : DInv s hs M [] F) {o : OpN} (hn : nameN o ∉ s.names) (hw : nameN o ∉ s.waits) {p : List Nat} (hp : p ∈ o.preds) (hnot : p ∉ s.names) :
    DInv ⟨s.ops, s.wait ++ [o]⟩ hs (putE M p (atB M p ++ [nameN o])) [] F := by
  have hwaits : DagN.waits ⟨s.ops, s.wait ++ [o]⟩ = s.waits ++ [nameN o] := by simp [DagN.waits]
  have h1 : DInv ⟨s.ops, s.wait ++ [o]⟩ hs M [nameN o] F := by
    refine ⟨?_, ?_, h.keys, fun q hq => ⟨(h.wait q hq).1, fun m hm => ?_⟩, fun m hm => ?_, h.closed, h.hnodup, h.heads⟩
    · rw [hwaits, show DagN.names ⟨s.ops, s.wait ++ [o]⟩ = s.names from rfl, ← List.append_assoc]
      refine List.nodup_append.2 ⟨h.nodup, by simp, fun a ha b hb e => ?_⟩
      obtain rfl := List.mem_singleton.1 hb
      subst e
      exact (List.mem_append.1 ha).elim hn hw
    · rw [hwaits]
      refine List.Perm.trans ?_ (h.perm.append_right [nameN o])
      rw [List.nil_append, List.append_assoc]
      exact List.Perm.append_left _ (List.perm_append_singleton _ _).symm
    · obtain ⟨x, hx, hx2⟩ := (h.wait q hq).2 m hm
      exact ⟨x, List.mem_append.2 (.inl hx), hx2⟩
    · obtain ⟨x, hx, hx2⟩ := h.free m hm
      exact ⟨x, List.mem_append.2 (.inl hx), hx2⟩
  exact h1.step_wait (List.mem_append.2 (.inr (List.mem_singleton.2 rfl))) rfl hp hnot
end
theorem settleN_none {f : Nat} {s : DagN} (h : bestN s.names s.wait = none) : settleN f s = ([], s) := by
  cases f with
  | zero => rfl
  | succ f => rw [settleN, h]
theorem settleN_some {s : DagN} {i : Nat} {o : OpN} (h : bestN s.names s.wait = some i) (ho : s.wait[i]? = some o) :
    settleN s.wait.length s = if o.depth = depthN s.ops o then
          (nameN o :: (settleN (s.wait.eraseIdx i).length ⟨s.ops ++ [o], s.wait.eraseIdx i⟩).1, (settleN (s.wait.eraseIdx i).length ⟨s.ops ++ [o], s.wait.eraseIdx i⟩).2)
        else settleN (s.wait.eraseIdx i).length ⟨s.ops, s.wait.eraseIdx i⟩ := by
  have hi := bestN_lt h
  obtain ⟨f, hf⟩ : ∃ f, s.wait.length = f + 1 := ⟨s.wait.length - 1, by omega⟩
  have hl : (s.wait.eraseIdx i).length = f := by rw [List.length_eraseIdx, if_pos hi]; omega
  rw [hf, hl, settleN, h]
  simp only [ho]
theorem heads_perm {s : DagN} {hs : List (List Nat)} {M : Bh} {R F : List (List Nat)} (h : DInv s hs M R F) : hs.Perm (s.names.filter fun n => !(s.ops.any fun o => decide (n ∈ o.preds))) := by
  refine (List.perm_ext_iff_of_nodup h.hnodup (List.filter_sublist.nodup h.nodupN)).2 fun n => ?_
  rw [h.heads n, List.mem_filter]
  simp
theorem heads_len {s : DagN} {hs : List (List Nat)} {M : Bh} {R F : List (List Nat)} (h : DInv s hs M R F) : (headsN s).length = hs.length := by
  rw [headsN, risingN_len, (heads_perm h).length_eq]
end Go.Proofs.YtandadfphlandaaGreatDoor
namespace Go.Proofs.YtandadfphlandaaGreatDoor
open Go.RowKit
section
variable {P : Program} {ops : Array Oper} {md : Region.Mode} {C : World → Prop}
def headIn (P : Program) (md : Region.Mode) (ops : Array Oper) (C : World → Prop) (n : Nat) (L : Array Bool → Act → Prop) : Nat → Array Bool → Act → Prop
  | 0, seen, a => L seen a
  | f + 1, seen, a => Region.ready md ops seen ≠ [] ∧ ∀ i, i ∈ Region.ready md ops seen → i < n ∧ qOp P ops C i (headIn P md ops C n L f (seen.setIfInBounds i true)) a
theorem any_of_headIn {n g : Nat} {L : Array Bool → Act → Prop} {Q : Exit → Act → World → Prop} (hL : ∀ seen a w, C w → L seen a → wpAny P md ops Q g seen a w) (f : Nat) :
    ∀ (seen : Array Bool) (a : Act) (w : World), C w → headIn P md ops C n L f seen a → wpAny P md ops Q (f + g) seen a w := by
  induction f with
  | zero => intro seen a w hw h; rw [Nat.zero_add]; exact hL seen a w hw h
  | succ f ih =>
    intro seen a w hw h
    rw [Nat.add_right_comm]
    exact ⟨fun e => (h.1 e).elim, fun i hi => wpOp_of_qOp hw (fun a' w' hw' h' => ih _ a' w' hw' h') (h.2 i hi).2⟩
theorem headIn_first {n i : Nat} {o : Oper} {v : Value} {L : Array Bool → Act → Prop} (ho : ops[i]? = some o) (hns : Region.noSelect ops = true) (hsink : Region.sinkB md ops n = true) (hchain : Region.chainB md ops n = true) (hn : n < ops.size) (hi : i < n)
    (hend : ∀ seen a, L seen a → ∀ j ∈ Region.ready md ops seen, n ≤ j) (f : Nat) :
    ∀ (seen : Array Bool) (a : Act), HeadInv md ops n seen →
      (∀ j p, ops[j]? = some p → j ≠ i → seen.getD j true = false → (∀ e ∈ p.after, Region.binds md e = true → e.on ≠ i) → o.apart ops p = true) →
      i ∈ Region.ready md ops seen → YieldsIn P ops C o v a → headIn P md ops C n L f (seen.setIfInBounds i true) (a.put o.dst v) → headIn P md ops C n L (f + 1) seen a := by
  have hsel := Region.noSelect_spec hns
  induction f with
  | zero =>
    intro seen a inv _ hr hy H
    refine ⟨List.ne_nil_of_mem hr, fun j hj => ?_⟩
    have hjn : j < n := Nat.lt_of_not_le fun h => tail_waits hsink hchain hn inv _ i rfl hi (mem_ready.1 hr).1 j h hj
    refine ⟨hjn, ?_⟩
    by_cases e : j = i
    · subst e
      exact hy.qOp ho H
    · exact absurd (hend _ _ H j (ready_mono hj e)) (by omega)
  | succ f ih =>
    intro seen a inv hfree hr hy H
    refine ⟨List.ne_nil_of_mem hr, fun j hj => ?_⟩
    have hjn : j < n := Nat.lt_of_not_le fun h => tail_waits hsink hchain hn inv _ i rfl hi (mem_ready.1 hr).1 j h hj
    refine ⟨hjn, ?_⟩
    by_cases e : j = i
    · subst e
      exact hy.qOp ho H
    · obtain ⟨hjs, p, hp, hall⟩ := mem_ready.1 hj
      have hno : ∀ x ∈ p.after, Region.binds md x = true → x.on ≠ i := fun x hx hb ex => by
        have h1 := hall x hx hb
        rw [ex, getD_both (mem_ready.1 hr).1] at h1
        cases h1
      refine qOp_mono (fun a' h3 => ?_) (qOp_put hp (hfree j p hp e hjs hno) (fun cs b => hsel i o cs b ho) (fun cs b => hsel j p cs b hp) hy (H.2 j (ready_mono hj e)).2)
      refine ih _ a' (inv.set hj hjn) (fun k q hq hk hs hnk => ?_) (ready_mono hr (Ne.symm e)) h3.1 ?_
      · refine hfree k q hq hk ?_ hnk
        by_cases ek : j = k
        · subst ek; exact hjs
        · rwa [getD_set_ne true ek] at hs
      · rw [Array.setIfInBounds_comm _ _ e]
        exact h3.2
theorem headIn_lex {n g : Nat} {M : Act → Prop} (hns : Region.noSelect ops = true) (hsink : Region.sinkB md ops n = true) (hchain : Region.chainB md ops n = true) (hn : n < ops.size) (l : List Oper) :
    ∀ (k : Nat) (seen : Array Bool) (a : Act), (∀ j, j < l.length → l[j]? = ops[k + j]?) → k + l.length = n → HeadInv md ops n seen → Region.lexHead md ops g l.length k seen = true → wpQuiet P ops C M l a →
    headIn P md ops C n (fun seen' a' => Region.seqB md ops g n seen' = true ∧ M a') l.length seen a := by
  induction l with
  | nil =>
    intro k seen a _ hk _ hB h
    obtain rfl : k = n := hk
    exact ⟨hB, h⟩
  | cons o l ih =>
    intro k seen a hl hk inv hB h
    have ho : ops[k]? = some o := by simpa using (hl 0 (by simp)).symm
    have hlen : (o :: l).length = l.length + 1 := rfl
    rw [hlen] at hk hB
    simp only [Region.lexHead, Bool.and_eq_true] at hB
    have hkr : k ∈ Region.ready md ops seen := by simpa using hB.1.1
    obtain ⟨v, hy, hK⟩ := yieldsIn_of_qOp ho (show qOp P ops C k (wpQuiet P ops C M l) a by unfold qOp; simp only [ho]; exact h)
    refine headIn_first ho hns hsink hchain hn (by omega) (fun seen' a' hL => seqB_ready hL.1) l.length seen a inv (Region.free_spec ho hB.1.2) hkr hy (ih (k + 1) _ _ (fun j hj => ?_) (by omega) (inv.set hkr (by omega)) hB.2 hK)
    have := hl (j + 1) (by simp; omega)
    rw [List.getElem?_cons_succ] at this
    rw [this]
    congr 1
    omega
theorem wp_region_class_tail {id : Nat} {Q : Exit → Act → World → Prop} {a : Act} {w : World} {l : List Oper} (C : World → Prop) (n : Nat) (hm : P.follows .mixedOrders = true) (hB : Region.lexTailB .any l.toArray n = true) (hC : C w.drew)
    (h : wpQuiet P l.toArray C (fun a' => ∀ w', C w' → wpList P l.toArray Q (l.drop n) a' w') (l.take n) a) : (Code.region id l.toArray true).wp P Q a w := by
  simp only [Region.lexTailB, Bool.and_eq_true, decide_eq_true_eq] at hB
  obtain ⟨⟨⟨⟨hns, hn⟩, hsink⟩, hchain⟩, hlex⟩ := hB
  have hsz : l.toArray.size = l.length := by simp
  have ht : (l.take n).length = n := by rw [List.length_take]; omega
  have hd : (l.drop n).length = l.toArray.size - n := by rw [List.length_drop, hsz]
  have inv : HeadInv .any l.toArray n (Array.replicate l.toArray.size false) :=
    ⟨Array.size_replicate, fun j p _ hs => (by rw [getD_replicate_false] at hs; cases hs), fun t _ ht' => getD_in (by rw [Array.size_replicate]; exact ht') (getD_replicate_false _ _)⟩
  have H := headIn_lex (md := .any) (g := l.toArray.size - n) hns hsink hchain hn (l.take n) 0 _ a (fun j hj => by
    rw [ht] at hj
    simp [hj]) (by omega) inv (by rw [ht]; exact hlex) h
  have A := any_of_headIn (Q := Q) (g := l.toArray.size - n) (fun seen a' w' hw' hL => by
    have := wpAny_of_seq (md := .any) (Q' := Q) (l.drop n) n seen a' w' (fun j => by simp [List.getElem?_drop]) (by rw [hd]; exact hL.1) (hL.2 w' hw')
    rwa [hd] at this) _ _ a w.drew hC H
  rw [ht, show n + (l.toArray.size - n) = l.toArray.size by omega] at A
  exact wp_region_any hm A
end
end Go.Proofs.YtandadfphlandaaGreatDoor
namespace Go.Proofs.YtandadfphlandaaGreatDoor
open Go.RowKit
section
variable {P : Program} {ops : Array Oper} {md : Region.Mode}
def left (seen : Array Bool) (n : Nat) : Nat := (List.range n).countP fun i => !seen.getD i false
theorem left_zero {seen : Array Bool} {n : Nat} (h : left seen n = 0) (i : Nat) (hi : i < n) : seen.getD i false = true := by
  have := List.countP_eq_zero.1 h i (List.mem_range.2 hi)
  simpa using this
theorem left_set {seen : Array Bool} {i : Nat} (hs : i < seen.size) (hu : seen.getD i false = false) : ∀ n, i < n → left (seen.setIfInBounds i true) n + 1 = left seen n := by
  intro n
  induction n with
  | zero => intro h; omega
  | succ n ih =>
    intro h
    simp only [left, List.range_succ, List.countP_append, List.countP_cons, List.countP_nil] at ih ⊢
    by_cases e : i = n
    · subst e
      have h1 : (seen.setIfInBounds i true).getD i false = true := by simp [hs]
      have h2 : (List.range i).countP (fun j => !(seen.setIfInBounds i true).getD j false) = (List.range i).countP (fun j => !seen.getD j false) := by
        refine List.countP_congr fun j hj => ?_
        rw [getD_set_ne false (by have := List.mem_range.1 hj; omega)]
      rw [h1, h2, hu]
      simp
    · have h1 : (seen.setIfInBounds i true).getD n false = seen.getD n false := getD_set_ne false e
      rw [h1]
      have := ih (by omega)
      omega
theorem left_least {seen : Array Bool} : ∀ {n : Nat}, left seen n ≠ 0 → ∃ k, k < n ∧ seen.getD k false = false ∧ ∀ j, j < k → seen.getD j false = true := by
  intro n
  induction n with
  | zero => intro h; exact absurd rfl h
  | succ n ih =>
    intro h
    by_cases h0 : left seen n = 0
    · refine ⟨n, by omega, ?_, left_zero h0⟩
      simp only [left, List.range_succ, List.countP_append, List.countP_cons, List.countP_nil] at h h0
      cases hs : seen.getD n false with
      | false => rfl
      | true => exact absurd h0 (by rw [hs] at h; simpa using h)
    · obtain ⟨k, hk, h1, h2⟩ := ih h0
      exact ⟨k, by omega, h1, h2⟩
theorem lexHead_spec {g : Nat} (f : Nat) : ∀ (k : Nat) (seen : Array Bool), seen.size = ops.size → (∀ j, seen.getD j false = decide (j < k)) → k + f ≤ ops.size → Region.lexHead md ops g f k seen = true →
    (∀ j, k ≤ j → j < k + f → ∃ o, ops[j]? = some o ∧ ∀ e ∈ o.after, Region.binds md e = true → e.on < j) ∧ ∃ full : Array Bool, full.size = ops.size ∧ (∀ j, full.getD j false = decide (j < k + f)) ∧ Region.seqB md ops g (k + f) full = true := by
  induction f with
  | zero => intro k seen hz hs _ hB; exact ⟨fun j h1 h2 => by omega, seen, hz, hs, hB⟩
  | succ f ih =>
    intro k seen hz hs hf hB
    simp only [Region.lexHead, Bool.and_eq_true] at hB
    have hkr : k ∈ Region.ready md ops seen := by simpa using hB.1.1
    obtain ⟨_, o, ho, hall⟩ := mem_ready.1 hkr
    obtain ⟨h1, full, h2, h3, h4⟩ := ih (k + 1) (seen.setIfInBounds k true) (by simpa using hz) (fun j => by
      by_cases e : k = j
      · subst e
        have : k < seen.size := by omega
        simp [this]
      · rw [getD_set_ne false e, hs j]
        exact decide_eq_decide.2 (by omega)) (by omega) hB.2
    refine ⟨fun j hj1 hj2 => ?_, full, h2, fun j => by rw [h3 j]; exact decide_eq_decide.2 (by omega), by rw [show k + (f + 1) = k + 1 + f by omega]; exact h4⟩
    by_cases e : j = k
    · subst e
      refine ⟨o, ho, fun x hx hb => ?_⟩
      have := hall x hx hb
      rw [hs] at this
      simpa using this
    · exact h1 j (by omega) (by omega)
theorem wp_region_inv {id : Nat} {Q : Exit → Act → World → Prop} {a : Act} {w : World} {l : List Oper} (n : Nat) (Inv : Array Bool → Act → World → Prop) (hm : P.follows .mixedOrders = true) (hB : Region.lexTailB .any l.toArray n = true)
    (h0 : Inv (Array.replicate l.toArray.size false) a w.drew)
    (hstep : ∀ seen a w i, i < n → i ∈ Region.ready .any l.toArray seen → i < seen.size → Inv seen a w → wpOp P l.toArray Q i (fun a' w' => Inv (seen.setIfInBounds i true) a' w') a w)
    (hend : ∀ seen a w, (∀ i, i < n → seen.getD i false = true) → Inv seen a w → wpList P l.toArray Q (l.drop n) a w) : (Code.region id l.toArray true).wp P Q a w := by
  simp only [Region.lexTailB, Bool.and_eq_true, decide_eq_true_eq] at hB
  obtain ⟨⟨⟨⟨hns, hn⟩, hsink⟩, hchain⟩, hlex⟩ := hB
  have hsz : l.toArray.size = l.length := by simp
  have hd : (l.drop n).length = l.toArray.size - n := by rw [List.length_drop, hsz]
  obtain ⟨hdeps, full, hfz, hfull, hseq⟩ := lexHead_spec (md := .any) (ops := l.toArray) n 0 _ Array.size_replicate (fun j => by rw [getD_replicate_false]; simp) (by omega) hlex
  rw [Nat.zero_add] at hseq
  have key : ∀ r seen a w, HeadInv .any l.toArray n seen → left seen n = r → Inv seen a w → wpAny P .any l.toArray Q (r + (l.toArray.size - n)) seen a w := by
    intro r
    induction r with
    | zero =>
      intro seen a w inv hr hI
      have hall := left_zero hr
      have hsame : seen = full := by
        refine Array.ext (by rw [inv.size, hfz]) fun j h1 h2 => ?_
        have e1 := hfull j
        have e2 : seen.getD j false = decide (j < 0 + n) := by
          by_cases hj : j < n
          · rw [hall j hj]; simp [hj]
          · have := getD_both (inv.tail j (by omega) (by rw [← inv.size]; exact h1))
            rw [this]; simp [hj]
        rw [← e1] at e2
        simpa [h1, h2] using e2
      have := wpAny_of_seq (md := .any) (Q' := Q) (l.drop n) n seen a w (fun j => by simp [List.getElem?_drop]) (by rw [hd, hsame]; exact hseq) (hend seen a w hall hI)
      rw [hd] at this
      rw [Nat.zero_add]
      exact this
    | succ r ih =>
      intro seen a w inv hr hI
      rw [Nat.add_right_comm]
      obtain ⟨k, hk, hku, hkl⟩ := left_least (seen := seen) (n := n) (by omega)
      have hks : k < seen.size := by rw [inv.size]; omega
      have hkr : k ∈ Region.ready .any l.toArray seen := by
        obtain ⟨o, ho, hb⟩ := hdeps k (by omega) (by omega)
        exact mem_ready.2 ⟨getD_in hks hku, o, ho, fun e he hbe => hkl _ (hb e he hbe)⟩
      refine ⟨fun e => (by rw [e] at hkr; cases hkr), fun i hi => ?_⟩
      have hin : i < n := Nat.lt_of_not_le fun h => tail_waits hsink hchain hn inv _ k rfl hk (getD_in hks hku) i h hi
      have his : i < seen.size := by rw [inv.size]; omega
      refine wpOp_mono (fun a' w' hI' => ih _ a' w' (inv.set hi hin) ?_ hI') (hstep seen a w i hin hi his hI)
      have := left_set his (getD_both (mem_ready.1 hi).1) n hin
      omega
  have inv0 : HeadInv .any l.toArray n (Array.replicate l.toArray.size false) :=
    ⟨Array.size_replicate, fun j p _ hs => (by rw [getD_replicate_false] at hs; cases hs), fun t _ ht' => getD_in (by rw [Array.size_replicate]; exact ht') (getD_replicate_false _ _)⟩
  have H := key n _ a w.drew inv0 (by
    have : ∀ m, left (Array.replicate l.toArray.size false) m = m := fun m => by
      unfold left
      rw [List.countP_eq_length.2 (fun i _ => by rw [getD_replicate_false]; rfl), List.length_range]
    exact this n) h0
  rw [show n + (l.toArray.size - n) = l.toArray.size by omega] at H
  exact wp_region_any hm H
end
end Go.Proofs.YtandadfphlandaaGreatDoor
namespace Go.Proofs.YtandadfphlandaaGreatDoor
open Go.RowKit
section
variable {P : Program}
def putAll : List Oper → (Nat → Value) → Act → Act
  | [], _, a => a
  | o :: l, V, a => putAll l (fun i => V (i + 1)) (a.put o.dst (V 0))
def apartB : List Oper → Bool
  | [] => true
  | o :: l => l.all (fun p => !(o.dst == p.dst)) && apartB l
def upd (V : Nat → Value) (i : Nat) (v : Value) : Nat → Value := fun j => if j = i then v else V j
theorem upd_same (V : Nat → Value) (i : Nat) (v : Value) : upd V i v i = v := by simp [upd]
theorem upd_ne (V : Nat → Value) {i j : Nat} (v : Value) (h : j ≠ i) : upd V i v j = V j := by simp [upd, h]
theorem put_put (a : Act) (d : Option Tmp) (u v : Value) : (a.put d u).put d v = a.put d v := by
  cases d with
  | none => rfl
  | some d => simp [Act.put]
theorem putAll_put (l : List Oper) (o : Oper) (v : Value) (h : l.all (fun p => !(o.dst == p.dst)) = true) : ∀ (V : Nat → Value) (a : Act), putAll l V (a.put o.dst v) = (putAll l V a).put o.dst v := by
  induction l with
  | nil => intro V a; rfl
  | cons p l ih =>
    intro V a
    simp only [List.all_cons, Bool.and_eq_true] at h
    rw [putAll, putAll, Act.put_comm a v (V 0) (fun d hd e => by rw [hd, e] at h; simp at h), ih h.2]
theorem putAll_upd (l : List Oper) (h : apartB l = true) : ∀ (i : Nat) (o : Oper) (v : Value) (V : Nat → Value) (a : Act), l[i]? = some o → putAll l (upd V i v) a = (putAll l V a).put o.dst v := by
  induction l with
  | nil => intro i o v V a ho; simp at ho
  | cons p l ih =>
    intro i o v V a ho
    simp only [apartB, Bool.and_eq_true] at h
    cases i with
    | zero =>
      obtain rfl : p = o := by simpa using ho
      rw [putAll, putAll, ← putAll_put l p v h.1, put_put]
      rfl
    | succ i =>
      rw [putAll, putAll, ← ih h.2 i o v (fun j => V (j + 1)) _ (by simpa using ho)]
      congr 1
      funext j
      simp [upd]
structure OpWp (P : Program) (o : Oper) (a : Act) (w : World) (K : Act → World → Prop) (Q : Exit → Act → World → Prop) : Prop where
  out : Oper.wp P o a w K Q
structure FreeStep (P : Program) (ops : Array Oper) (Q : Exit → Act → World → Prop) (F : (Nat → Value) → Act) (Inv : (Nat → Bool) → (Nat → Value) → World → Prop) (o : Oper) (i : Nat) : Prop where
  go : ∀ s V w, (∀ e ∈ o.after, Region.binds .any e = true → s e.on = true) → s i = false → Inv s V w →
    ∀ K : Act → World → Prop, (∀ v w', Inv (fun j => s j || j == i) (upd V i v) w' → K ((F V).put o.dst v) w') →
      if Region.wanted o (yielded ops (F V).tmps) = true then Oper.wp P o (F V) w K Q else K ((F V).put o.dst undef) w
def FreeSteps (P : Program) (ops : Array Oper) (Q : Exit → Act → World → Prop) (F : (Nat → Value) → Act) (Inv : (Nat → Bool) → (Nat → Value) → World → Prop) : List Oper → Nat → Prop
  | [], _ => True
  | o :: l, i => FreeStep P ops Q F Inv o i ∧ FreeSteps P ops Q F Inv l (i + 1)
theorem FreeSteps.nil {ops : Array Oper} {Q : Exit → Act → World → Prop} {F : (Nat → Value) → Act} {Inv : (Nat → Bool) → (Nat → Value) → World → Prop} {i : Nat} : FreeSteps P ops Q F Inv [] i := trivial
theorem FreeSteps.cons {ops : Array Oper} {Q : Exit → Act → World → Prop} {F : (Nat → Value) → Act} {Inv : (Nat → Bool) → (Nat → Value) → World → Prop} {o : Oper} {l : List Oper} {i : Nat} (h : FreeStep P ops Q F Inv o i) (hs : FreeSteps P ops Q F Inv l (i + 1)) : FreeSteps P ops Q F Inv (o :: l) i := ⟨h, hs⟩
theorem FreeStep.fresh {ops : Array Oper} {Q : Exit → Act → World → Prop} {F : (Nat → Value) → Act} {Inv : (Nat → Bool) → (Nat → Value) → World → Prop} {o : Oper} {i : Nat} (hg : o.guard = none)
    (h : ∀ s V w, (∀ e ∈ o.after, Region.binds .any e = true → s e.on = true) → s i = false → Inv s V w → ∀ K : Act → World → Prop, (∀ v w', Inv (fun j => s j || j == i) (upd V i v) w' → K ((F V).put o.dst v) w') → OpWp P o (F V) w K Q) : FreeStep P ops Q F Inv o i := ⟨fun s V w hr hu hI K hK => by
  have hw : Region.wanted o (yielded ops (F V).tmps) = true := by simp [Region.wanted, hg]
  rw [if_pos hw]
  exact (h s V w hr hu hI K hK).out⟩
theorem FreeSteps.get {ops : Array Oper} {Q : Exit → Act → World → Prop} {F : (Nat → Value) → Act} {Inv : (Nat → Bool) → (Nat → Value) → World → Prop} (l : List Oper) : ∀ (i k : Nat) (o : Oper), FreeSteps P ops Q F Inv l k → l[i]? = some o → FreeStep P ops Q F Inv o (k + i) := by
  induction l with
  | nil => intro i k o _ ho; simp at ho
  | cons p l ih =>
    intro i k o h ho
    cases i with
    | zero =>
      obtain rfl : p = o := by simpa using ho
      exact h.1
    | succ i =>
      have := ih i (k + 1) o h.2 (by simpa using ho)
      rwa [show k + 1 + i = k + (i + 1) by omega] at this
theorem wp_region_free {id : Nat} {Q : Exit → Act → World → Prop} {a : Act} {w : World} {l : List Oper} (n : Nat) (Inv : (Nat → Bool) → (Nat → Value) → World → Prop) (V0 : Nat → Value) (hm : P.follows .mixedOrders = true) (hB : Region.lexTailB .any l.toArray n = true) (hd : apartB (l.take n) = true)
    (ha : putAll (l.take n) V0 a = a) (h0 : Inv (fun _ => false) V0 w.drew)
    (hstep : FreeSteps P l.toArray Q (fun V => putAll (l.take n) V a) Inv (l.take n) 0)
    (hend : ∀ s V w, (∀ i, i < n → s i = true) → Inv s V w → wpList P l.toArray Q (l.drop n) (putAll (l.take n) V a) w) : (Code.region id l.toArray true).wp P Q a w := by
  have hn : n < l.length := by
    simp only [Region.lexTailB, Bool.and_eq_true, decide_eq_true_eq] at hB
    simpa using hB.1.1.1.2
  refine wp_region_inv n (fun seen a' w' => ∃ V, a' = putAll (l.take n) V a ∧ Inv (fun j => seen.getD j false) V w') hm hB ⟨V0, ha.symm, ?_⟩ ?_ ?_
  · rw [show (fun j => (Array.replicate l.toArray.size false).getD j false) = fun _ => false from funext fun j => getD_replicate_false _ _]
    exact h0
  · rintro seen a' w' i hi hr hs ⟨V, rfl, hI⟩
    obtain ⟨hu, o, ho, hall⟩ := mem_ready.1 hr
    have ho' : (l.take n)[i]? = some o := by
      rw [List.getElem?_take, if_pos hi]
      simpa using ho
    have hF := FreeSteps.get (l.take n) i 0 o hstep ho'
    rw [Nat.zero_add] at hF
    have e : (fun j => (seen.setIfInBounds i true).getD j false) = fun j => seen.getD j false || j == i := funext fun j => by
      by_cases hj : i = j
      · subst hj; simp [hs]
      · rw [getD_set_ne false hj]
        have : (j == i) = false := by simp; omega
        rw [this, Bool.or_false]
    have hF2 := hF.go _ V w' hall (getD_both hu) hI (fun a'' w'' => ∃ V, a'' = putAll (l.take n) V a ∧ Inv (fun j => (seen.setIfInBounds i true).getD j false) V w'') (fun v w'' h => ⟨upd V i v, (putAll_upd _ hd i o v V a ho').symm, by rw [e]; exact h⟩)
    unfold wpOp
    simp only [ho]
    split
    · rename_i hw
      rw [if_pos hw] at hF2
      exact .inl hF2
    · rename_i hw
      rw [if_neg hw] at hF2
      exact hF2
  · rintro seen a' w' hall ⟨V, rfl, hI⟩
    exact hend _ V w' (fun i hi => hall i hi) hI
theorem wpList_load_want {w : World} {ops : Array Oper} {rest : List Oper} {o : Oper} {a : Act} {Q : Exit → Act → World → Prop} (hw : Region.wanted o (yielded ops a.tmps) = true) (ty : TypeId) (x : Operand) (ho : o.op = .load ty x)
    (g : Nat) (k : IntKind) (l : List Nat) (t : TypeId) (d : TypeDesc) (hx : a.eval x = .pointer (some ⟨g, 0, none⟩)) (hg : Blk g t k l w)
    (hu : P.underlying ty = some d) (hd : (match d with | .struct _ | .array _ _ => true | _ => false) = true) (hi : (P.info? ty).map (·.size) = some l.length)
    (h : wpList P ops Q rest (a.put o.dst (.agg (nums k l).toArray)) w) : wpList P ops Q (o :: rest) a w :=
  BigFrame.wpList_want hw fun _ hK => wp_load_row ty x ho g hx t _ _ d hg hu hd (by rw [nums_size]; exact hi) (hK _ _ h)
theorem op_load_nums {o : Oper} {a : Act} {w : World} {K : Act → World → Prop} {Q : Exit → Act → World → Prop} (ty : TypeId) (x : Operand) (ho : o.op = .load ty x) (b : Nat) (k : IntKind) (l : List Nat) (t : TypeId) (d : TypeDesc)
    (hx : a.eval x = .pointer (some ⟨b, 0, none⟩)) (hb : Blk b t k l w) (hu : P.underlying ty = some d) (hd : (match d with | .struct _ | .array _ _ => true | _ => false) = true) (hi : (P.info? ty).map (·.size) = some l.length)
    (h : K (a.put o.dst (.agg (nums k l).toArray)) w) : OpWp P o a w K Q := by
  refine ⟨?_⟩
  unfold Oper.wp execOp
  simp only [ho, hx, Instr.loadAt, Instr.sureAddr, Sem.run_bind, Sem.run_pure, Result.andThen_ok, run_loadVar_row w b t ty _ (0, 0) d hb hu hd (by rw [nums_size]; exact hi)]
  exact h
theorem op_move {o : Oper} {a : Act} {w : World} {K : Act → World → Prop} {Q : Exit → Act → World → Prop} (x : Operand) (ho : o.op = .move x) (v : Value) (hx : a.eval x = v) (h : K (a.put o.dst v) w) : OpWp P o a w K Q := by
  refine ⟨?_⟩
  unfold Oper.wp execOp
  simp only [ho, hx, Sem.run_pure]
  exact h
theorem op_extract {o : Oper} {a : Act} {w : World} {K : Act → World → Prop} {Q : Exit → Act → World → Prop} (x : Operand) (n : Nat) (ho : o.op = .extract x n) (vs : Array Value) (v : Value) (hx : a.eval x = .tuple vs) (hv : vs[n]? = some v) (h : K (a.put o.dst v) w) : OpWp P o a w K Q := by
  refine ⟨?_⟩
  unfold Oper.wp execOp
  simp [ho, hx, hv, Instr.extract]
  exact h
theorem cons_eq {α : Type} {a b : α} {l m : List α} (h : a = b) (h2 : l = m) : a :: l = b :: m := by rw [h, h2]
structure Shut (p : Prop) : Prop where
  out : p
theorem op_call {o : Oper} {a : Act} {w : World} {K : Act → World → Prop} {Q : Exit → Act → World → Prop} {f : FuncId} {fn : Func} (hf : P.funcs[f]? = some fn) (hname : (fn.name == "runtime.NumGoroutine") = false) (hb : fn.body.isNone = false)
    {args : Array Operand} {ts : Array TypeId} (ho : o.op = .call { callee := .value (.func f), args := args, argTypes := ts }) (vs : List Value) (hv : args.toList.map a.eval = vs) {C : Ending → World → Prop}
    (hc : Calls P f vs.toArray w C) (h : ∀ e w', C e w' → ∃ v, e = .returned v ∧ K (a.put o.dst v) w') : OpWp P o a w K Q := by
  have hr : (execOp a.eval o).run P w = .ok (.enter f vs.toArray) w := by
    obtain ⟨dst, op, ty, pos, after, guard⟩ := o
    simp only at ho
    subst ho
    rw [execOp_call_go, show args.map a.eval = vs.toArray by rw [← hv, ← Array.toList_map, Array.toArray_toList], Array.append_empty, Array.empty_append]
    have h1 : ¬ fn.name = "runtime.NumGoroutine" := by simpa using hname
    have h2 : ¬ fn.body = none := by intro e; rw [e] at hb; cases hb
    simp [callFunc, Sem.run_bind, hf, h1, h2, go_sem]
  refine ⟨?_⟩
  unfold Oper.wp
  rw [hr, Oper.upon_enter]
  refine hc.mono fun e w' he => ?_
  obtain ⟨v, rfl, hk⟩ := h e w' he
  exact hk
theorem op_alloc {o : Oper} {a : Act} {w : World} {K : Act → World → Prop} {Q : Exit → Act → World → Prop} (ty : TypeId) (ho : o.op = .alloc ty) (z : Array Value) (hz : ∀ w, (Instr.alloc ty true (.tuple #[])).run P w = .ok (.pointer (some ⟨w.heap.size, 0, none⟩)) (w.alloc (.cells z ty)))
    (h : K (a.put o.dst (.pointer (some ⟨w.heap.size, 0, none⟩))) (w.alloc (.cells z ty))) : OpWp P o a w K Q := by
  refine ⟨?_⟩
  unfold Oper.wp execOp
  simp only [ho, Sem.run_bind, Sem.run_pure, Result.andThen_ok, hz]
  exact h
def Cells (b : Nat) (t : TypeId) (cs : Array Value) (w : World) : Prop := w.heap[b]? = some (.cells cs t (0, 0))
theorem Cells.lt {b : Nat} {t : TypeId} {cs : Array Value} {w : World} (h : Cells b t cs w) : b < w.heap.size := lt_of_block h
theorem Cells.below {b : Nat} {t : TypeId} {cs : Array Value} {w w' : World} (h : Cells b t cs w) (hb : Below w.heap.size w w') : Cells b t cs w' := (hb.block b h.lt).trans h
theorem Cells.but {b g : Nat} {t : TypeId} {cs : Array Value} {w w' : World} (h : Cells b t cs w) (hb : But g w w') (hne : b ≠ g) : Cells b t cs w' := (hb.block b h.lt hne).trans h
theorem quiet_load_cells {o : Oper} {a : Act} {C : World → Prop} {K : Act → Prop} (ty : TypeId) (x : Operand) (ho : o.op = .load ty x) (b : Nat) (cs : Array Value) (t : TypeId) (d : TypeDesc)
    (hx : a.eval x = .pointer (some ⟨b, 0, none⟩)) (hC : ∀ w, C w → Cells b t cs w) (hu : P.underlying ty = some d) (hd : (match d with | .struct _ | .array _ _ => true | _ => false) = true) (hi : (P.info? ty).map (·.size) = some cs.size)
    (hk : K (a.put o.dst (.agg cs))) : o.quiet P a C K := by
  refine ⟨_, fun w hw => ?_, hk⟩
  unfold Oper.quietAt execOp
  simp only [ho, hx, Instr.loadAt, Instr.sureAddr, Sem.run_bind, Sem.run_pure, Result.andThen_ok, run_loadVar_row w b t ty _ (0, 0) d (hC w hw) hu hd hi]
  exact ⟨rfl, rfl⟩
theorem wpList_load_cells {w : World} {ops : Array Oper} {rest : List Oper} {o : Oper} {a : Act} {Q : Exit → Act → World → Prop} (hgd : o.guard = none) (ty : TypeId) (x : Operand) (ho : o.op = .load ty x)
    (g : Nat) (cs : Array Value) (t : TypeId) (d : TypeDesc) (hx : a.eval x = .pointer (some ⟨g, 0, none⟩)) (hg : Cells g t cs w)
    (hu : P.underlying ty = some d) (hd : (match d with | .struct _ | .array _ _ => true | _ => false) = true) (hi : (P.info? ty).map (·.size) = some cs.size)
    (h : wpList P ops Q rest (a.put o.dst (.agg cs)) w) : wpList P ops Q (o :: rest) a w :=
  wpList_load_row hgd ty x ho g hx t _ _ d hg hu hd hi h
theorem wpList_store_cells {w : World} {ops : Array Oper} {rest : List Oper} {o : Oper} {a : Act} {Q : Exit → Act → World → Prop} (hgd : o.guard = none) (ty : TypeId) (x y : Operand) (ho : o.op = .store ty x y)
    (hd : o.dst = none) (g : Nat) (cs cs' : Array Value) (t : TypeId) (hx : a.eval x = .pointer (some ⟨g, 0, none⟩)) (hy : a.eval y = .agg cs')
    (hg : Cells g t cs w) (hi : (P.info? ty).map (·.size) = some cs'.size) (hl : cs.size = cs'.size) (h1 : cs'.all (·.oneCell') = true)
    (h : ∀ w', Hid (Cells g t cs' w') → Hid (But g w w') → wpList P ops Q rest a w') : wpList P ops Q (o :: rest) a w :=
  wpList_store_rowTo hgd ty x y ho hd g cs' hx hy t _ hg hi hl h1 (h _ (setRow_heap _ _ _ _ _ _ hg) ((But.refl g w).setRow _))
theorem op_load_cells {o : Oper} {a : Act} {w : World} {K : Act → World → Prop} {Q : Exit → Act → World → Prop} (ty : TypeId) (x : Operand) (ho : o.op = .load ty x) (b : Nat) (cs : Array Value) (t : TypeId) (d : TypeDesc)
    (hx : a.eval x = .pointer (some ⟨b, 0, none⟩)) (hb : Cells b t cs w) (hu : P.underlying ty = some d) (hd : (match d with | .struct _ | .array _ _ => true | _ => false) = true) (hi : (P.info? ty).map (·.size) = some cs.size)
    (h : K (a.put o.dst (.agg cs)) w) : OpWp P o a w K Q := by
  refine ⟨?_⟩
  unfold Oper.wp execOp
  simp only [ho, hx, Instr.loadAt, Instr.sureAddr, Sem.run_bind, Sem.run_pure, Result.andThen_ok, run_loadVar_row w b t ty _ (0, 0) d hb hu hd hi]
  exact h
def Val (s : Nat → Bool) (V : Nat → Value) (i : Nat) (v : Value) : Prop := s i = true → V i = v
theorem Val.none {V : Nat → Value} {i : Nat} {v : Value} : Val (fun _ => false) V i v := fun h => by cases h
theorem seen_ne {s : Nat → Bool} {i j : Nat} (hne : j ≠ i) (h : (s j || j == i) = true) : s j = true := by
  have : (j == i) = false := by simpa using hne
  rwa [this, Bool.or_false] at h
theorem Val.same {s : Nat → Bool} {V : Nat → Value} {i : Nat} {v : Value} : Val (fun j => s j || j == i) (upd V i v) i v := fun _ => upd_same _ _ _
theorem Val.ne {s : Nat → Bool} {V : Nat → Value} {i j : Nat} {v u : Value} (h : Val s V j v) (hne : j ≠ i) : Val (fun j => s j || j == i) (upd V i u) j v := fun hs => by
  rw [upd_ne V u hne]
  exact h (seen_ne hne hs)
def Late (s : Nat → Bool) (i j : Nat) : Prop := s j = true → s i = true
theorem Late.none {i j : Nat} : Late (fun _ => false) i j := fun h => by cases h
theorem Late.ne {s : Nat → Bool} {i j m : Nat} (h : Late s i j) (hj : j ≠ m) : Late (fun n => s n || n == m) i j := fun hs => by
  show (s i || i == m) = true
  rw [h (seen_ne hj hs), Bool.true_or]
theorem Late.same {s : Nat → Bool} {i j : Nat} (h : s i = true) : Late (fun n => s n || n == j) i j := fun _ => by
  show (s i || i == j) = true
  rw [h, Bool.true_or]
theorem Late.not {s : Nat → Bool} {i j : Nat} (h : Late s i j) (hi : s i = false) : s j = false := by
  cases e : s j with
  | false => rfl
  | true => rw [h e] at hi; cases hi
end
end Go.Proofs.YtandadfphlandaaGreatDoor
namespace Go.Proofs.YtandadfphlandaaGreatDoor
open Go.RowKit
theorem cat2 (l s : List UInt8) : (({ data := l.toArray } : ByteArray) ++ { data := s.toArray }) = { data := (l ++ s).toArray } := by
  rw [ByteArray.ext_iff]; simp
theorem conv_blk {P : Program} (w : World) (src dst e : TypeId) (b cap n : Nat) (l : List Nat) (t : TypeId) (hn : n = l.length) (hl : ∀ y ∈ l, y < 256) (hb : Blk b t .u8 l w) (hs : P.underlying src = some (.slice e)) (he : P.underlying e = some (.int .u8)) (hd : P.underlying dst = some .string) :
    (convert src dst (.slice (some ⟨b, 0, none⟩) n cap)).run P w = .ok (.string ⟨(txt l).toArray⟩) w := by
  subst hn
  have hc := run_convert_bytes_back (P := P) w src dst e ⟨b, 0, none⟩ cap (txt l) hs he hd (fun j hj => by
    rw [txt_len] at hj
    rw [Addr.add_lit, Nat.zero_add, hb.cell j hj, List.getD_eq_getElem?_getD, List.getElem?_eq_getElem hj]
    have h1 := hl _ (List.getElem_mem hj)
    simp only [txt, List.getElem_map, Option.getD_some]
    rw [show (UInt8.ofNat l[j]).toNat = l[j] by simp; omega])
  rwa [txt_len] at hc
theorem run_loadVar_cell {P : Program} (w : World) (ty : TypeId) (p : Addr) (v : Value) (hc : w.cell? p = some v) (hi : ∀ w, (isAgg ty).run P w = .ok false w) : (loadVar ty p).run P w = .ok v w := by
  simp [loadVar, hi, hc, go_sem]
theorem quiet_load_cell {P : Program} {o : Oper} {a : Act} {C : World → Prop} {K : Act → Prop} (ty : TypeId) (x : Operand) (ho : o.op = .load ty x) (p : Addr) (v : Value)
    (hx : a.eval x = .pointer (some p)) (hC : ∀ w, C w → w.cell? p = some v) (hi : ∀ w, (isAgg ty).run P w = .ok false w) (hk : K (a.put o.dst v)) : o.quiet P a C K := by
  refine ⟨_, fun w hw => ?_, hk⟩
  unfold Oper.quietAt execOp
  simp only [ho, hx, Instr.loadAt, Instr.sureAddr, Sem.run_bind, Sem.run_pure, Result.andThen_ok, run_loadVar_cell w ty p v (hC w hw) hi]
  exact ⟨rfl, rfl⟩
theorem wpList_append_nums {P : Program} {w : World} {ops : Array Oper} {rest : List Oper} {o : Oper} {a : Act} {Q : Exit → Act → World → Prop} (hgd : o.guard = none) (s x : Operand) (t e : TypeId)
    (ho : o.op = .call { callee := .builtin .append, args := #[s, x], argTypes := #[t, t] })
    (B : Nat) (k : IntKind) (bytes : Nat) (ht : P.underlying t = some (.slice e)) (hinfo : (P.info? e).map (fun i => (i.zero, i.size, i.bytes)) = some (some (.int k 0), 1, bytes))
    (v : Value) (l m : List Nat) (ad : Addr) (n c : Nat) (hn : n = m.length) (hs : a.eval s = v) (hown : OwnN B e k v l w) (hx : a.eval x = .slice (some ad) n c) (hnews : ∀ j u, (nums k m)[j]? = some u → w.cell? (ad.add j) = some u)
    (h63 : l.length + m.length ≤ maxLen) (hbytes : (l.length + m.length) * bytes ≤ 140737488355328) (hB : B ≤ w.heap.size)
    (h : ∀ v' w', Hid (OwnN B e k v' (l ++ m) w') → Hid (Below B w w') → wpList P ops Q rest (a.put o.dst v') w') : wpList P ops Q (o :: rest) a w := by
  obtain ⟨i, hi, hz0, hz1, hz2⟩ := info_parts hinfo
  subst hn
  refine wpList_append_own_at w hgd s x _ ho B e i (.int k 0) 1 bytes ht hi hz0 hz1 hz2 rfl (by decide) v l.length (nums k l) hs hown ad m.length c (nums k m) hx (by rw [nums_len, Nat.mul_one]) hnews (nums_one k m) h63 hbytes hB ?_
  intro v' w' h2 hg _ _
  refine h v' w' ?_ ((Below.refl B w).grown hg hB (fun k hk => (World.ownsRow.lt hown k hk).1))
  show w'.ownsRow B e 1 v' (l ++ m).length (nums k (l ++ m))
  rw [List.length_append, show nums k (l ++ m) = nums k l ++ nums k m by simp [nums]]
  exact h2
theorem blk_news {g : Nat} {t : TypeId} {k : IntKind} {l : List Nat} {w : World} (h : Blk g t k l w) : ∀ j u, (nums k l)[j]? = some u → w.cell? ((⟨g, 0, none⟩ : Addr).add j) = some u := by
  intro j u hj
  rw [Addr.add_lit, Nat.zero_add, Lib.cell_of_heap h j, List.getElem?_toArray]
  exact hj
end Go.Proofs.YtandadfphlandaaGreatDoor
