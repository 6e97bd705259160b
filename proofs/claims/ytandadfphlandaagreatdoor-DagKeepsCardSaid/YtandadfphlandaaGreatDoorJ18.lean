/-
  Joined: container/heap over the queue: Push, Pop.; The developers' set and a queue beside it.; The developers' release.; What admit needs: the row of names that it answers, beside the set and the queue; how many wait.; Take's cuts: one is taken out of a row: an empty literal, what lies ahead, what lies behind.
-/
import Derived.Test.YtandadfphlandaaGreatDoorJ07
import Derived.Test.YtandadfphlandaaGreatDoorJ16
import Derived.Test.YtandadfphlandaaGreatDoorJ17
namespace Go.Proofs.YtandadfphlandaaGreatDoor
open Go.RowKit Go.BigFrame
theorem QAt.formB {q : Nat} {v : Value} {Q : List (List Nat)} {w : World} (h : QAt q v Q w) (h0 : 0 < Q.length) : ∃ g c, v = .slice (some ⟨g, 0, none⟩) Q.length c := by
  rcases h.row.2 with ⟨_, h1⟩ | ⟨g, cap, cur, h1, _⟩
  · omega
  · exact ⟨g, cap, h1⟩
theorem push_perm (Q : List (List Nat)) (n : List Nat) : (Q ++ [n]).Perm (n :: Q) := List.perm_append_singleton _ _
theorem drop_last {Q : List (List Nat)} (h0 : 0 < Q.length) : Q = Q.dropLast ++ [qAt Q (Q.length - 1)] := by
  have hne : Q ≠ [] := fun e => by rw [e] at h0; cases h0
  rw [qAt_get (by omega), ← List.getLast_eq_getElem hne, List.dropLast_concat_getLast hne]
theorem qAt_drop {Q : List (List Nat)} {k : Nat} (h : k < Q.length - 1) : qAt Q.dropLast k = qAt Q k := by
  rw [qAt_get (by rw [List.length_dropLast]; exact h), qAt_get (by omega), List.getElem_dropLast]
set_option maxHeartbeats 4000000 in
set_option maxRecDepth 100000 in
theorem heap_push (q : Nat) (v : Value) (Q : List (List Nat)) (x : List Nat) (w : World) (h : QAt q v Q w) (hh : HeapN Q Q.length) (hx : IdOk x) (hl : Q.length ≤ 90000) :
    Calls Tryz.prog 70 #[hq q, .iface 25 (.agg (nums .u8 x).toArray)] w fun e w' => e = .returned (.tuple #[]) ∧ ∃ v' Q', Q'.Perm (x :: Q) ∧ HeapN Q' Q'.length ∧ QAt q v' Q' w' ∧ Turn (QO q v) (QO q v') w w' := by
  have HP := Lib.hid (qu_push q v Q x w h hx (by omega))
  have HU := Lib.hid (hh.push x)
  unfold hq
  clear h hh hx
  go_enter Tryz.func70, Tryz.ntmps70
  go_wp2_with (refine wpList_invoke rfl Tryz.func131 rfl rfl (.tmp 4) "Push" _ _ rfl _ _ _ rfl (inv_p q w row_push) [.iface 25 (.agg (nums .u8 x).toArray)] rfl HP.out ?_)
  rintro e w1 rfl v1 hq1 ht1
  refine ⟨_, rfl, ?_⟩
  obtain ⟨g, c, rfl⟩ := hq1.formB (by simp)
  obtain ⟨R, hR⟩ : ∃ R, Q ++ [x] = R := ⟨_, rfl⟩
  have hln : R.length = Q.length + 1 := by rw [← hR]; simp
  rw [hR] at hq1 ht1 HU
  have HPR := Lib.hid (show R.Perm (x :: Q) from hR ▸ push_perm Q x)
  obtain ⟨m, hm⟩ : ∃ m, R.length = m := ⟨_, rfl⟩
  obtain ⟨k, hk⟩ : ∃ k, Q.length = k := ⟨_, rfl⟩
  rw [hm, hk] at HU hln
  rw [hm] at hq1 ht1
  have HM := Lib.hid hm
  have HQ1 := Lib.hid hq1
  have HT1 := Lib.hid ht1
  have hmk : ((m : Nat) : Int) - 1 = (k : Int) := by omega
  have hm6 : m ≤ 100000 := by omega
  clear hq1 ht1 hR hm hk HP
  have HUP := Lib.hid (dev_up q g m c k R w1 HQ1.out HM.out.symm (by omega) (by omega) HU.out)
  unfold hq at HUP
  clear hln
  go_wp2_with (first
    | (refine wpList_invoke rfl Tryz.func54 rfl rfl (.tmp 8) "Len" _ _ rfl _ _ _ rfl (inv_v HQ1.out row_len) [] rfl (qu_len _ m c w1) ?_; rintro e wx ⟨rfl, hwx⟩; subst wx; refine ⟨_, rfl, ?_⟩)
    | (refine HUP.out.mono ?_; rintro e w3 ⟨rfl, Q', hp, hh, hq, ht⟩))
  have HF := Lib.hid (And.intro (hp.trans HPR.out) (And.intro hh (And.intro hq (HT1.out.trans ht))))
  have HL := Lib.hid (hp.length_eq.trans HM.out)
  clear hp hh hq ht
  go_wp2_with fail
  refine bodyPost_end (results_none rfl _ _ _) rfl ?_
  obtain ⟨f1, f2, f3, f4⟩ := HF.out
  exact ⟨rfl, _, Q', f1, by rw [HL.out]; exact f2, f3, f4⟩
theorem pop_of (q g c k : Nat) (Q : List (List Nat)) (x : List Nat) (w : World) (h : QAt q (.slice (some ⟨g, 0, none⟩) (k + 1) c) Q w) (hl : Q.length = k + 1) (hk : k ≤ 90000) (hx : qAt Q k = x) :
    Calls Tryz.prog 130 #[.pointer (some ⟨q, 0, none⟩)] w fun e w' => e = .returned (.iface 25 (.agg (nums .u8 x).toArray)) ∧ ∃ v', QAt q v' Q.dropLast w' ∧ Turn (QO q (.slice (some ⟨g, 0, none⟩) (k + 1) c)) (QO q v') w w' := by
  have h1 := qu_pop q _ Q w h (by omega) (by omega)
  have e : qAt Q (Q.length - 1) = x := by rw [hl]; exact hx
  rwa [e] at h1
set_option maxHeartbeats 4000000 in
set_option maxRecDepth 100000 in
theorem heap_pop (q : Nat) (v : Value) (Q : List (List Nat)) (w : World) (h : QAt q v Q w) (hh : HeapN Q Q.length) (h0 : 0 < Q.length) (hl : Q.length ≤ 90000) :
    Calls Tryz.prog 55 #[hq q] w fun e w' => e = .returned (.iface 25 (.agg (nums .u8 (qAt Q 0)).toArray)) ∧ ∃ v' Q', (qAt Q 0 :: Q').Perm Q ∧ HeapN Q' Q'.length ∧ QAt q v' Q' w' ∧ Turn (QO q v) (QO q v') w w' := by
  obtain ⟨g, c, rfl⟩ := h.formB h0
  have hd := hh.drop h0
  obtain ⟨m, hm⟩ : ∃ m, Q.length = m := ⟨_, rfl⟩
  obtain ⟨k, hk⟩ : ∃ k, m = k + 1 := ⟨m - 1, by omega⟩
  subst hk
  rw [hm] at h h0 hl hd
  rw [hm]
  rw [show k + 1 - 1 = k from rfl] at hd
  have HQ := Lib.hid h
  have HD := Lib.hid hd
  have HM := Lib.hid hm
  have HS := Lib.hid (q_swap (i := 0) (j := k) h hm.symm (by omega) (by omega))
  obtain ⟨x, hx⟩ : ∃ x, qAt Q 0 = x := ⟨_, rfl⟩
  have HX := Lib.hid (show qAt (swapQ Q 0 k) k = x by rw [swapQ_at (by omega) (by omega), if_pos rfl, hx])
  have HPS := Lib.hid (swapQ_perm (Q := Q) (i := 0) (j := k) (by omega) (by omega))
  obtain ⟨S, hS⟩ : ∃ S, swapQ Q 0 k = S := ⟨_, rfl⟩
  rw [hS] at HD HS HX HPS
  rw [hx]
  have hki : ((k + 1 : Nat) : Int) - 1 = (k : Int) := by omega
  have hk6 : k ≤ 90000 := by omega
  unfold hq
  have hz : ((0 : Nat) : Int) = 0 := rfl
  rw [hz] at HS
  clear h hh hd hm hx hS h0 hl
  go_enter Tryz.func55, Tryz.ntmps55
  go_wp2_with (first
    | (refine wpList_invoke rfl Tryz.func54 rfl rfl (.tmp 4) "Len" _ _ rfl _ _ _ rfl (inv_v HQ.out row_len) [] rfl (qu_len _ (k + 1) c w) ?_; rintro e wx ⟨rfl, hwx⟩; subst wx; refine ⟨_, rfl, ?_⟩)
    | (refine wpList_invoke rfl Tryz.func132 rfl rfl (.tmp 7) "Swap" _ _ rfl _ _ _ rfl (inv_v HQ.out row_swap) [.int .i64 0, .int .i64 k] rfl HS.out ?_))
  rintro e w1 rfl hq1 ht1
  refine ⟨_, rfl, ?_⟩
  have HQ1 := Lib.hid hq1
  have HT1 := Lib.hid ht1
  have HLS := Lib.hid (show k + 1 = S.length by rw [HPS.out.length_eq, HM.out])
  have HDN := Lib.hid (dev_down q g (k + 1) c k S w1 hq1 HLS.out (by omega) (by omega) HD.out)
  unfold hq at HDN
  clear hq1 ht1 HS HQ HD
  go_wp2_with (first
    | (refine HDN.out.mono ?_; rintro e w2 ⟨⟨r, rfl⟩, Q2, hp2, hh2, hr2, hq2, ht2⟩
       have HL2 := Lib.hid (show Q2.length = k + 1 by rw [hp2.length_eq, ← HLS.out])
       have HLAST := Lib.hid (show qAt Q2 k = x by rw [hr2 k (Nat.le_refl _)]; exact HX.out)
       have HP2 := Lib.hid (hp2.trans HPS.out)
       have HH2 := Lib.hid hh2
       have HT2 := Lib.hid (HT1.out.trans ht2)
       have HPOP := Lib.hid (pop_of q g c k Q2 x w2 hq2 HL2.out hk6 HLAST.out)
       clear hp2 hh2 hr2 hq2 ht2 HQ1 HT1 HDN)
    | (refine wpList_invoke rfl Tryz.func130 rfl rfl (.tmp 13) "Pop" _ _ rfl _ _ _ rfl (inv_p q w2 row_pop) [] rfl HPOP.out ?_))
  rintro e w3 rfl v3 hq3 ht3
  refine ⟨_, rfl, ?_⟩
  have HF := Lib.hid (show (x :: Q2.dropLast).Perm Q ∧ HeapN Q2.dropLast Q2.dropLast.length ∧ QAt q v3 Q2.dropLast w3 ∧ Turn (QO q (.slice (some ⟨g, 0, none⟩) (k + 1) c)) (QO q v3) w w3 from by
    refine ⟨?_, ?_, hq3, HT2.out.trans ht3⟩
    · have hd := drop_last (Q := Q2) (by rw [HL2.out]; omega)
      rw [HL2.out, show k + 1 - 1 = k from rfl, HLAST.out] at hd
      refine List.Perm.trans ?_ HP2.out
      conv => rhs; rw [hd]
      exact (List.perm_append_singleton _ _).symm
    · rw [List.length_dropLast, HL2.out, show k + 1 - 1 = k from rfl]
      intro j hj0 hjk
      rw [qAt_drop (by rw [HL2.out]; exact hjk), qAt_drop (by rw [HL2.out]; omega)]
      exact HH2.out j hj0 hjk)
  clear hq3 ht3 HPOP
  go_wp2_with fail
  go_ret
  exact ⟨rfl, v3, _, HF.out⟩
end Go.Proofs.YtandadfphlandaaGreatDoor
namespace Go.Proofs.YtandadfphlandaaGreatDoor
open Go.RowKit Go.BigFrame
structure SQ (X : Nat → Prop) (B : Bs) (T : Ents) (s : DagN) (hs : List (List Nat)) (M : Bh) (q : Nat) (v : Value) (Q : List (List Nat)) (w : World) : Prop where
  set : SetAt X B T s hs M w
  qu : QAt q v Q w
  apart : ∀ b, QO q v b → ¬ SetO B T b
  qx : ∀ b, QO q v b → X b
def SQO (B : Bs) (T : Ents) (q : Nat) (v : Value) : Nat → Prop := fun b => SetO B T b ∨ QO q v b
section
variable {X : Nat → Prop} {B : Bs} {T T' : Ents} {s s' : DagN} {hs hs' : List (List Nat)} {M M' : Bh} {q : Nat} {v v' : Value} {Q Q' : List (List Nat)} {w w' : World}
theorem SQ.below (h : SQ X B T s hs M q v Q w) (k : Below w.heap.size w w') : SQ X B T s hs M q v Q w' := ⟨h.set.below k, h.qu.below k, h.apart, h.qx⟩
theorem SQ.turnS (h : SQ X B T s hs M q v Q w) (k : SetAt X B T' s' hs' M' w') (t : Turn (SetO B T) (SetO B T') w w') : SQ X B T' s' hs' M' q v Q w' ∧ Turn (SQO B T q v) (SQO B T' q v) w w' := by
  refine ⟨⟨k, h.qu.only t.only h.apart, fun b hb e => ?_, h.qx⟩, ⟨t.only.os, t.only.tape, t.only.output, t.only.size, fun i hi hn => t.only.block i hi (fun e => hn (.inl e))⟩, fun b hb => ?_⟩
  · rcases t.own b e with e | e
    · exact h.apart b hb e
    · have := h.qu.lt hb
      omega
  · rcases hb with hb | hb
    · exact (t.own b hb).imp .inl id
    · exact .inl (.inr hb)
theorem SQ.turnQ (h : SQ X B T s hs M q v Q w) (hX : ∀ b, w.heap.size ≤ b → X b) (k : QAt q v' Q' w') (t : Turn (QO q v) (QO q v') w w') : SQ X B T s hs M q v' Q' w' ∧ Turn (SQO B T q v) (SQO B T q v') w w' := by
  refine ⟨⟨h.set.only t.only h.qx (fun b hb e => h.apart b e hb), k, fun b hb e => ?_, fun b hb => ?_⟩, ⟨t.only.os, t.only.tape, t.only.output, t.only.size, fun i hi hn => t.only.block i hi (fun e => hn (.inr e))⟩, fun b hb => ?_⟩
  · rcases t.own b hb with h1 | h1
    · exact h.apart b h1 e
    · have := (SetO.x h.set e).2
      omega
  · rcases t.own b hb with h1 | h1
    · exact h.qx b h1
    · exact hX b h1
  · rcases hb with hb | hb
    · exact .inl (.inl hb)
    · exact (t.own b hb).imp .inr id
theorem SQ.lt (h : SQ X B T s hs M q v Q w) {b : Nat} (hb : SQO B T q v b) : X b ∧ b < w.heap.size := by
  rcases hb with hb | hb
  · exact SetO.x h.set hb
  · exact ⟨h.qx b hb, h.qu.lt hb⟩
end
theorem DInv.lenB {s : DagN} {hs : List (List Nat)} {M : Bh} {R F : List (List Nat)} (h : DInv s hs M R F) (p : List Nat) : (atB M p).length ≤ s.wait.length ∧ R.length ≤ s.wait.length := by
  have h1 := h.perm.length_eq
  have h2 := (flatB_del h.keys p).length_eq
  simp only [List.length_append, DagN.waits, List.length_map] at h1 h2
  omega
theorem at_del_ne {M : Bh} (hd : (M.map (·.1)).Nodup) {n p : List Nat} (h : p ≠ n) : atB (delE M n) p = atB M p := by
  rw [atB, atB, atE, atE, lookup_del_ne hd h]
theorem at_put_ne {M : Bh} (hd : (M.map (·.1)).Nodup) {n p : List Nat} {l : List (List Nat)} (h : n ≠ p) : atB (putE M p l) n = atB M n := by
  rw [atB, atB, atE, atE, lookup_put_ne hd _ h]
theorem put_here {β : Type} {L : List (List Nat × β)} (hd : (L.map (·.1)).Nodup) {n : List Nat} {v : β} (h : L.lookup n = some v) : putE L n v = L := by
  obtain ⟨A, B, h1, h2, _⟩ := split_all hd h
  rw [h2, h1]
end Go.Proofs.YtandadfphlandaaGreatDoor
namespace Go.Proofs.YtandadfphlandaaGreatDoor
open Go.RowKit Go.BigFrame
theorem drop_at {L : List (List Nat)} {k : Nat} (h : k < L.length) : L.drop k = L.getD k [] :: L.drop (k + 1) := by
  rw [List.drop_eq_getElem_cons h, List.getD_eq_getElem?_getD, List.getElem?_eq_getElem h]
  rfl
theorem heap_push_q (q : Nat) (v : Value) (Q : List (List Nat)) (x : List Nat) (w : World) (h : QAt q v Q w) (hh : HeapN Q Q.length) (hx : IdOk x) (hl : Q.length ≤ 90000) :
    Calls Tryz.prog 70 #[.iface 85 (.pointer (some ⟨q, 0, none⟩)), .iface 25 (.agg (nums .u8 x).toArray)] w fun e w' => e = .returned (.tuple #[]) ∧ ∃ v' Q', Q'.Perm (x :: Q) ∧ HeapN Q' Q'.length ∧ QAt q v' Q' w' ∧ Turn (QO q v) (QO q v') w w' :=
  heap_push q v Q x w h hh hx hl
section
variable {X : Nat → Prop} {B : Bs} {T : Ents} {s : DagN} {W' : List OpN} {hs : List (List Nat)} {M : Bh} {n : List Nat} {o : OpN} {val : Value} {w w' : World} {e : Ending}
theorem wait_yes (h : WaitPost X B T s W' hs M n o val w e w') (hw : wholeN s.names o = true) : e = .returned (.bool false) ∧ Below w.heap.size w w' := by
  rcases h with ⟨_, rfl, h2⟩ | ⟨p, v, h1, h2, _⟩
  · exact ⟨rfl, h2⟩
  · exact absurd (wholeN_iff.1 hw p h1) h2
theorem wait_no (h : WaitPost X B T s W' hs M n o val w e w') (hw : wholeN s.names o = false) : e = .returned (.bool true) ∧ ∃ p v, p ∈ o.preds ∧ p ∉ s.names ∧ SetAt X B ⟨T.p, putE T.w n val, putE T.b p v⟩ ⟨s.ops, W'⟩ hs (putE M p (atB M p ++ [n])) w' ∧ Turn (SetO B T) (SetO B ⟨T.p, putE T.w n val, putE T.b p v⟩) w w' := by
  rcases h with ⟨h1, _⟩ | ⟨p, v, h1, h2, h3, h4⟩
  · rw [hw] at h1; cases h1
  · exact ⟨h3, p, v, h1, h2, h4⟩
end
set_option maxHeartbeats 8000000 in
set_option maxRecDepth 100000 in
theorem dev_release (X : Nat → Prop) (B : Bs) (T : Ents) (s : DagN) (hs : List (List Nat)) (M : Bh) (n : List Nat) (q : Nat) (v : Value) (Q : List (List Nat)) (w : World) (h : SQ X B T s hs M q v Q w) (hX : ∀ b, w.heap.size ≤ b → X b) (hn : IdOk n) (hin : n ∈ s.names)
    (hd : DInv s hs (delE M n) (atB M n) Q) (hh : HeapN Q Q.length) (hfo : ∀ x ∈ s.ops, x.d.ref.length = 32) (hfw : ∀ x ∈ s.wait, x.Fit) (hlw : s.wait.length ≤ 1000) :
    Calls Tryz.prog 53 #[.pointer (some ⟨B.gs, 0, none⟩), .agg (nums .u8 n).toArray, .pointer (some ⟨q, 0, none⟩)] w fun e w' => e = .returned (.tuple #[]) ∧
      ∃ T' M' v' Q', SQ X B T' s hs M' q v' Q' w' ∧ DInv s hs M' [] Q' ∧ HeapN Q' Q'.length ∧ Turn (SQO B T q v) (SQO B T' q v') w w' := by
  have HX0 := Lib.hid hX
  have HN := Lib.hid hn
  have HIN := Lib.hid hin
  have HFO := Lib.hid hfo
  have HFW := Lib.hid hfw
  have HD0 := Lib.hid hd
  have HH0 := Lib.hid hh
  have HS00 := Lib.hid h
  have a1 : Below w.heap.size w (w.alloc (.cells (nums .u8 n).toArray 25)) := (Below.refl _ _).alloc (Nat.le_refl _) _
  have x1 : Blk w.heap.size 25 .u8 n (w.alloc (.cells (nums .u8 n).toArray 25)) := heap_alloc_new w _
  have HSN := Lib.hid (show (Tryz.prog.info? 25).map (·.size) = some n.length by rw [hn.1]; exact Tryz.sizeI)
  go_enter Tryz.func53, Tryz.ntmps53
  go_upto_region 1 with (fail)
  obtain ⟨w1, hw1⟩ : ∃ x, x = w.alloc (.cells (nums .u8 n).toArray 25) := ⟨_, rfl⟩
  rw [← hw1] at a1 x1 ⊢
  obtain ⟨g4, hg4⟩ : ∃ g, w.heap.size = g := ⟨_, rfl⟩
  rw [hg4] at x1 ⊢
  have HB := Lib.hid a1
  have H4 := Lib.hid x1
  have HS := Lib.hid (h.below a1)
  have HG4 := Lib.hid hg4
  have HNO4 := Lib.hid (show ¬ SQO B T q v g4 from fun e => by have := (SQ.lt h e).2; omega)
  obtain ⟨hr1, hr2, hr3⟩ := h.set.beh.row h.set.bm.nodup n
  have hdl := (hd.lenB n).2
  obtain ⟨R, hR⟩ : ∃ R, atE T.b (.slice none 0 0) n = R := ⟨_, rfl⟩
  obtain ⟨L, hL⟩ : ∃ L, atB M n = L := ⟨_, rfl⟩
  rw [hR] at hr1
  rw [hL] at hr1 hr3 hdl
  obtain ⟨ao, c, rfl⟩ := hr1.form
  obtain ⟨m, hm⟩ : ∃ m, L.length = m := ⟨_, rfl⟩
  rw [hm] at hR hdl hr1
  have HM := Shut.mk hm
  have HR := Shut.mk hR
  have HLE := Shut.mk hL
  have HLI := Lib.hid hr3
  clear a1 x1 hw1 hg4 h hX hn hin hd hh hfo hfw hr1 hr2 hr3 hR hL hm
  have HCE := Lib.hid (fun w' (hb : Below w1.heap.size w1 w') => (HS.out.below hb).set.cell.2.2.2)
  have HI4 := Lib.hid (fun w' (hb : Below w1.heap.size w1 w') => H4.out.below hb)
  refine wp_region_class (fun w' => Below w1.heap.size w1 w') (by kernel_rfl) (by kernel_rfl) (Below.refl _ _).drew ?_
  repeat (first
    | (go_big_quiet_want; refine quiet_load_cell 63 _ rfl ⟨B.gs, 3, none⟩ _ rfl HCE.out Tryz.isAgg63 ?_; go_big_quiet_on; simp only [Act.put, List.setIfInBounds_toArray, List.set_cons_zero, List.set_cons_succ])
    | (go_big_quiet_want; refine quiet_load_nums 25 _ rfl g4 .u8 n 25 _ rfl HI4.out Tryz.underlying25 rfl HSN.out ?_; go_big_quiet_on; simp only [Act.put, List.setIfInBounds_toArray, List.set_cons_zero, List.set_cons_succ])
    | (go_big_quiet_want; refine quiet_lookup_id _ _ 63 25 34 false rfl Tryz.idKey Tryz.underlying63 (.slice none 0 0) zero_ids B.b T.b (fun w' hb => (HS.out.below hb).set.bm) n HN.out rfl rfl _ HR.out ?_; go_big_quiet_on; simp only [Act.put, List.setIfInBounds_toArray, List.set_cons_zero, List.set_cons_succ])
    | go_big_quiet_step ((intro hs'; rfl)))
  refine wpQuiet_nil ?_
  intro w2 hs2
  have HS2 := Lib.hid (HS.out.below hs2)
  have HB2 := Lib.hid (HB.out.trans (hs2.mono HB.out.size))
  have H42 := Lib.hid (H4.out.below hs2)
  clear hs2 HCE HI4 HS HB H4
  go_wp2_with fail
  go_loopw [15] (fun i wr => ∃ (k : Nat) (Tk : Ents) (Mk : Bh) (vk : Value) (Qk : List (List Nat)), k ≤ m ∧ i = .int .i64 k ∧ SQ X B Tk s hs Mk q vk Qk wr ∧ DInv s hs (delE Mk n) (L.drop k) Qk ∧ HeapN Qk Qk.length ∧ atB Mk n = L ∧ atE Tk.b (.slice none 0 0) n = .slice ao m c ∧ Turn (SQO B T q v) (SQO B Tk q vk) w2 wr) (fun i _ => m - (intOf i).toNat)
  case atStart => exact ⟨0, T, M, v, Q, Nat.zero_le _, rfl, HS2.out, by rw [List.drop_zero, ← HLE.out]; exact HD0.out, HH0.out, HLE.out, HR.out, Turn.refl _ _⟩
  case round =>
    obtain ⟨k, Tk, Mk, vk, Qk, hk, rfl, hsq, hdi, hhk, hmk, hrk, htk⟩ := hrel
    obtain ⟨hr1, hr2, hr3⟩ := hsq.set.beh.row hsq.set.bm.nodup n
    rw [hrk, hmk] at hr1
    have hat := hr1.at HLI.out
    have hkk := hsq.set.beh.keys
    have HKM := Lib.hid (show (Mk.map (·.1)).Nodup from hkk ▸ hsq.set.bm.nodup)
    have HKE := Lib.hid hsq.set.bm.nodup
    have HSQ := Lib.hid hsq
    have HDI := Lib.hid hdi
    have HHK := Lib.hid hhk
    have HMK := Shut.mk hmk
    have HRK := Shut.mk hrk
    have HTK := Lib.hid htk
    have HXK := Lib.hid (fun b (hb : wr.heap.size ≤ b) => HX0.out b (Nat.le_trans HB2.out.size (Nat.le_trans htk.only.size hb)))
    have HLF := Lib.hid (show Qk.length ≤ 1000 from Nat.le_trans hdi.lenF hlw)
    clear hsq hdi hhk hmk hrk htk hr1 hr2 hr3 hkk
    by_cases hlt : k < m
    · obtain ⟨b, ob, rfl, hbl⟩ := hat.some (by rw [HM.out]; omega)
      have gx := hat.get (i := k) (by rw [HM.out]; omega)
      have i1 := Ids.getD HLI.out (i := k) (by rw [HM.out]; omega)
      have hdr := drop_at (L := L) (k := k) (by rw [HM.out]; exact hlt)
      obtain ⟨x, hx⟩ : ∃ x, L.getD k [] = x := ⟨_, rfl⟩
      rw [hx] at gx i1 hdr
      have HXI := Lib.hid (show IdOk x from i1)
      have HG1 := Lib.hid gx
      have hdi := HDI.out
      rw [hdr] at hdi
      have HDX := Lib.hid hdi
      have HS1 := Lib.hid (show (Tryz.prog.info? 25).map (·.size) = some x.length by rw [i1.1]; exact Tryz.sizeI)
      have HL2 := Lib.hid (show (List.replicate 32 0).length = x.length by rw [i1.1]; rfl)
      obtain ⟨o0, ho0, ho1⟩ := hdi.op (m := x) (by simp)
      obtain ⟨o, pa, pc, e1, e2, e3, e4, e5⟩ := ents_look HSQ.out.set.wait HSQ.out.set.wm.nodup (fun y hy => (HFW.out y hy).d.ref.1) x
      obtain ⟨_, f1, f2, f3, f4, _⟩ := e5.resolve_right (fun h => h.1 (List.mem_map.2 ⟨o0, ho0, ho1⟩))
      have HE1 := Shut.mk e1
      have HOF := Lib.hid (HFW.out o f1)
      have HOW := Lib.hid f1
      have HON := Lib.hid f2
      have HLK := Lib.hid f4
      have HIA := Lib.hid e4
      have HWE := Lib.hid (show EntsO X s.wait (putE Tk.w x (.agg (opV o pa pc))) wr from by
        rw [put_here HSQ.out.set.wm.nodup f4]
        exact HSQ.out.set.wait)
      clear hx gx i1 hbl hdr hdi ho0 ho1 e1 e2 e3 e4 e5 f1 f2 f3 f4 hat
      go_wp2_with (first
        | (refine wpList_load_id rfl 25 _ rfl b (ob + k * 32) x _ rfl HG1.out Tryz.underlying25 rfl HS1.out ?_)
        | (refine wpList_store_nums rfl 25 _ _ rfl rfl wr.heap.size .u8 (List.replicate 32 0) x 25 rfl rfl (heap_alloc_new wr _) HS1.out HL2.out ?_))
      intro w5 hc' hb'
      have HB5 := Lib.hid (show Below wr.heap.size wr w5 from But.toBelow ((Below.refl _ _).alloc (Nat.le_refl _) _) hb'.out (Nat.le_refl _) (by rw [World.size_alloc]; exact Nat.le_succ _))
      have HS5 := Lib.hid (HSQ.out.below HB5.out)
      have HT5 := Lib.hid (HTK.out.below HB5.out)
      have HWE5 := Lib.hid (HWE.out.below HB5.out)
      have HIA5 := Lib.hid (HIA.out.below HB5.out)
      obtain ⟨g7, hg7⟩ : ∃ g, wr.heap.size = g := ⟨_, rfl⟩
      have HC5 := Lib.hid (show Blk g7 25 .u8 x w5 from hg7 ▸ hc'.out)
      have HNO7 := Lib.hid (show ¬ SQO B Tk q vk g7 from fun e => by have := (SQ.lt HSQ.out e).2; omega)
      have HX5 := Lib.hid (fun b (hb : w5.heap.size ≤ b) => HXK.out b (Nat.le_trans HB5.out.size hb))
      rw [hg7]
      clear hc' hb' hg7 HG1 HWE HIA
      go_upto_region 4 with (fail)
      have HCE := Lib.hid (fun w' (hb : Below w5.heap.size w5 w') => (HS5.out.below hb).set.cell.2.1)
      have HI7 := Lib.hid (fun w' (hb : Below w5.heap.size w5 w') => HC5.out.below hb)
      refine wp_region_class_tail (fun w' => Below w5.heap.size w5 w') 8 (by kernel_rfl) (by kernel_rfl) (Below.refl _ _).drew ?_
      simp only [List.take_succ_cons, List.take_zero, List.drop_succ_cons, List.drop_zero]
      repeat (first
        | (go_big_quiet_want; refine quiet_load_cell 61 _ rfl ⟨B.gs, 1, none⟩ _ rfl HCE.out Tryz.isAgg61 ?_; go_big_quiet_on; simp only [Act.put, List.setIfInBounds_toArray, List.set_cons_zero, List.set_cons_succ])
        | (go_big_quiet_want; refine quiet_load_nums 25 _ rfl g7 .u8 x 25 _ rfl HI7.out Tryz.underlying25 rfl HS1.out ?_; go_big_quiet_on; simp only [Act.put, List.setIfInBounds_toArray, List.set_cons_zero, List.set_cons_succ])
        | (go_big_quiet_want; refine quiet_lookup_id _ _ 61 25 38 false rfl Tryz.idKey Tryz.underlying61 (.agg (opV zeroO none 0)) zero_op B.w Tk.w (fun w' hb => (HS5.out.below hb).set.wm) x HXI.out rfl rfl _ HE1.out ?_; go_big_quiet_on; simp only [Act.put, List.setIfInBounds_toArray, List.set_cons_zero, List.set_cons_succ])
        | go_big_quiet_step ((intro hs'; rfl)))
      refine wpQuiet_nil ?_
      intro w6 hs6
      have HS6 := Lib.hid (HS5.out.below hs6)
      have HT6 := Lib.hid (HT5.out.below hs6)
      have HC6 := Lib.hid (HC5.out.below hs6)
      have HX6 := Lib.hid (fun b (hb : w6.heap.size ≤ b) => HX5.out b (Nat.le_trans hs6.size hb))
      have HWT := Lib.hid (dev_wait X B Tk s hs Mk x o pa pc s.wait w6 HS6.out.set HX6.out HXI.out HOF.out.d.ref.1 HOF.out.preds (HIA5.out.below hs6) (by have := HOF.out.many; omega) (HWE5.out.below hs6) HFO.out (fun p => by
        by_cases hpn : p = n
        · rw [hpn, HMK.out, HM.out]; omega
        · have := (HDX.out.lenB p).1
          rw [at_del_ne HKM.out hpn] at this
          omega))
      clear hs6 HCE HI7 HS5 HT5 HC5 HWE5 HIA5 HX5
      obtain ⟨z, hz⟩ : ∃ z, wholeN s.names o = z := ⟨_, rfl⟩
      have HZ := Shut.mk hz
      clear hz
      cases z with
      | true =>
        have HWY := Lib.hid (HWT.out.mono (fun e w' h => wait_yes h HZ.out))
        clear HWT
        go_wp2_with (first
          | (refine HWY.out.mono ?_; rintro e w7 ⟨rfl, hb7⟩
             have HS7 := Lib.hid (HS6.out.below hb7)
             have HT7 := Lib.hid (HT6.out.below hb7)
             have HC7 := Lib.hid (HC6.out.below hb7)
             have HX7 := Lib.hid (fun b (hb : w7.heap.size ≤ b) => HX6.out b (Nat.le_trans hb7.size hb))
             have HPU := Lib.hid (heap_push_q q vk Qk x w7 HS7.out.qu HHK.out HXI.out (by have := HLF.out; omega))
             clear hb7)
          | (refine wpList_load_nums rfl 25 (.tmp 7) rfl g7 .u8 x 25 _ rfl HC7.out Tryz.underlying25 rfl HS1.out ?_)
          | (refine HPU.out.mono ?_; rintro e w8 ⟨rfl, v8, Q8, hp8, hh8, hq8, ht8⟩
             obtain ⟨hs8, htt8⟩ := HS7.out.turnQ HX7.out hq8 ht8
             have HS8 := Lib.hid hs8
             have HT8 := Lib.hid (HT7.out.trans htt8)
             have HH8 := Lib.hid hh8
             have HP8 := Lib.hid hp8
             clear hp8 hh8 hq8 ht8 hs8 htt8))
        have HD8 := Lib.hid (show DInv s hs (delE Mk n) (L.drop (k + 1)) Q8 from (HDX.out.step_free HOW.out HON.out HZ.out).permF HP8.out.symm)
        exact ⟨⟨k + 1, Tk, Mk, v8, Q8, by omega, by go_num, HS8.out, HD8.out, HH8.out, HMK.out, HRK.out, HT8.out⟩, by simp [intOf]; omega⟩
      | false =>
        have HWN := Lib.hid (HWT.out.mono (fun e w' h => wait_no h HZ.out))
        clear HWT
        go_wp2_with (refine HWN.out.mono ?_; rintro e w7 ⟨rfl, p, u, hpo, hpn, hset, htn⟩)
        have hne : n ≠ p := fun e => hpn (e ▸ HIN.out)
        obtain ⟨hs7, ht7⟩ := HS6.out.turnS hset htn
        have hd7 := HDX.out.step_wait HOW.out HON.out hpo hpn
        rw [at_del_ne HKM.out (Ne.symm hne), ← del_put_ne _ (Ne.symm hne)] at hd7
        exact ⟨⟨k + 1, _, _, vk, Qk, by omega, by go_num, hs7, hd7, HHK.out, by rw [at_put_ne HKM.out hne]; exact HMK.out, by
          show atE (putE Tk.b p u) (.slice none 0 0) n = _
          rw [atE, lookup_put_ne HKE.out _ hne]
          exact HRK.out, HT6.out.trans ht7⟩, by simp [intOf]; omega⟩
    · obtain rfl : k = m := by omega
      have hde := HDI.out
      rw [List.drop_of_length_le (by rw [HM.out]; exact Nat.le_refl _)] at hde
      have HDE := Lib.hid hde
      have H4K := Lib.hid (H42.out.only HTK.out.only HNO4.out)
      clear hde hat
      go_upto_region 7 with (fail)
      have HCE := Lib.hid (fun w' (hb : Below wr.heap.size wr w') => (HSQ.out.below hb).set.cell.2.2.2)
      have HI4 := Lib.hid (fun w' (hb : Below wr.heap.size wr w') => H4K.out.below hb)
      refine wp_region_class_tail (fun w' => Below wr.heap.size wr w') 5 (by kernel_rfl) (by kernel_rfl) (Below.refl _ _).drew ?_
      simp only [List.take_succ_cons, List.take_zero, List.drop_succ_cons, List.drop_zero]
      repeat (first
        | (go_big_quiet_want; refine quiet_load_cell 63 _ rfl ⟨B.gs, 3, none⟩ _ rfl HCE.out Tryz.isAgg63 ?_; go_big_quiet_on; simp only [Act.put, List.setIfInBounds_toArray, List.set_cons_zero, List.set_cons_succ])
        | (go_big_quiet_want; refine quiet_load_nums 25 _ rfl g4 .u8 n 25 _ rfl HI4.out Tryz.underlying25 rfl HSN.out ?_; go_big_quiet_on; simp only [Act.put, List.setIfInBounds_toArray, List.set_cons_zero, List.set_cons_succ])
        | go_big_quiet_step ((intro hs'; rfl)))
      refine wpQuiet_nil ?_
      intro w8 hs8
      have HS8 := Lib.hid (HSQ.out.below hs8)
      have HT8 := Lib.hid (HTK.out.below hs8)
      have HBM := Lib.hid HS8.out.set.bm
      clear hs8 HCE HI4 HSQ HTK
      go_wp2_with (refine wpList_delete_id rfl _ _ 63 25 34 rfl Tryz.idKey Tryz.underlying63 B.b _ HBM.out n HN.out rfl rfl ?_)
      intro w9 hm9 ho9
      obtain ⟨hs9, ht9⟩ := HS8.out.set.delB n ho9.out hm9.out
      obtain ⟨hf1, hf2⟩ := HS8.out.turnS hs9 ht9
      have HF1 := Lib.hid hf1
      have HF2 := Lib.hid ((Turn.of HB2.out).trans (HT8.out.trans hf2))
      clear hm9 ho9 hs9 ht9 hf1 hf2
      go_wp2_with fail
      refine bodyPost_end (results_none rfl _ _ _) rfl ?_
      exact ⟨rfl, _, _, vk, Qk, HF1.out, HDE.out, HHK.out, HF2.out⟩
end Go.Proofs.YtandadfphlandaaGreatDoor
namespace Go.Proofs.YtandadfphlandaaGreatDoor
open Go.RowKit Go.BigFrame
section
variable {X O : Nat → Prop} {B : Bs} {T : Ents} {s : DagN} {hs : List (List Nat)} {M : Bh} {q : Nat} {v : Value} {Q : List (List Nat)} {w w' : World}
theorem SQ.only (h : SQ X B T s hs M q v Q w) (k : Only O w w') (hO : ∀ b, O b → X b) (hd : ∀ b, SQO B T q v b → ¬ O b) : SQ X B T s hs M q v Q w' :=
  ⟨h.set.only k hO (fun b hb => hd b (.inl hb)), h.qu.only k (fun b hb => hd b (.inr hb)), h.apart, h.qx⟩
theorem SQ.start (h : SetAt X B T s hs M w) (hX : ∀ b, w.heap.size ≤ b → X b) (hq : QAt q v Q w') (k : Below w.heap.size w w') (hn : ∀ b, QO q v b → w.heap.size ≤ b) : SQ X B T s hs M q v Q w' :=
  ⟨h.below k, hq, fun b hb e => by have := hn b hb; have := (SetO.x h e).2; omega, fun b hb => hX b (hn b hb)⟩
end
theorem own_lit {g : Nat} {x : List Nat} {w : World} {B : Nat} (h : Blk g 25 .u8 x w) (hx : x.length = 32) (hB : B ≤ g) : OwnI B 25 (.slice (some ⟨g, 0, none⟩) 1 1) [x] w := by
  have hf : flatI [x] = nums .u8 x := by simp [flatI]
  refine ⟨by rw [hf, nums_len, hx]; rfl, .inr ⟨g, 1, (nums .u8 x).toArray, rfl, hB, h, Nat.le_refl _, by unfold maxLen; omega, by rw [List.size_toArray, nums_len, hx], ?_⟩⟩
  rw [hf]
  show (nums .u8 x).take (1 * 32) = _
  rw [List.take_of_length_le (by rw [nums_len, hx]; exact Nat.le_refl _)]
def mapSize (w : World) (b : Nat) : Nat := match w.heap[b]? with
  | some (.map es _) => es.size
  | _ => 0
theorem MapN.size {b : Nat} {L : List (List Nat × Value)} {w : World} (h : MapN b L w) : mapSize w b = L.length := by
  obtain ⟨es, clock, h1, _, h3⟩ := h.ex
  have := congrArg List.length h3
  rw [mapSize, h1]
  simpa using this
theorem SetAt.size {X : Nat → Prop} {B : Bs} {T : Ents} {s : DagN} {hs : List (List Nat)} {M : Bh} {w : World} (h : SetAt X B T s hs M w) : mapSize w B.w = s.wait.length := by
  rw [h.wm.size, h.wait.1]
structure Tame (s : DagN) : Prop where
  ops : ∀ x ∈ s.ops, x.Fit
  wait : ∀ x ∈ s.wait, x.Fit
  shallow : s.Shallow
  many : s.ops.length + s.wait.length ≤ 1000
theorem Tame.push {s : DagN} (h : Tame s) {o : OpN} {i : Nat} (hi : s.wait[i]? = some o) (hd : o.depth = depthN s.ops o) : Tame ⟨s.ops ++ [o], s.wait.eraseIdx i⟩ := by
  have hil := (List.getElem?_eq_some_iff.1 hi).1
  have hl : (s.wait.eraseIdx i).length + 1 = s.wait.length := by rw [List.length_eraseIdx, if_pos hil]; omega
  refine ⟨fun x hx => ?_, fun x hx => h.wait x ((List.eraseIdx_sublist _ _).subset hx), Shallow_push h.shallow hd _, by simp only [List.length_append, List.length_singleton]; have := h.many; omega⟩
  rcases List.mem_append.1 hx with hx | hx
  · exact h.ops x hx
  · obtain rfl := List.mem_singleton.1 hx
    exact h.wait x (List.mem_of_getElem? hi)
theorem Tame.drop {s : DagN} (h : Tame s) (i : Nat) : Tame ⟨s.ops, s.wait.eraseIdx i⟩ :=
  ⟨h.ops, fun x hx => h.wait x ((List.eraseIdx_sublist _ _).subset hx), h.shallow, by have := h.many; have := List.length_eraseIdx_le s.wait i; show s.ops.length + (s.wait.eraseIdx i).length ≤ 1000; omega⟩
theorem Tame.come {s : DagN} (h : Tame s) {o : OpN} (ho : o.Fit) (hd : o.depth = depthN s.ops o) (hm : s.ops.length + s.wait.length ≤ 999) : Tame ⟨s.ops ++ [o], s.wait⟩ := by
  refine ⟨fun x hx => ?_, h.wait, Shallow_push h.shallow hd _, by simp only [List.length_append, List.length_singleton]; omega⟩
  rcases List.mem_append.1 hx with hx | hx
  · exact h.ops x hx
  · obtain rfl := List.mem_singleton.1 hx
    exact ho
theorem EntsO.drop {X : Nat → Prop} {L : List OpN} {E : List (List Nat × Value)} {w : World} (h : EntsO X L E w) (hd : (E.map (·.1)).Nodup) {i : Nat} {o : OpN} (hi : L[i]? = some o) : EntsO X (L.eraseIdx i) (delE E (nameN o)) w := by
  obtain ⟨pa, pc, h1, _⟩ := h.2 i o hi
  rw [del_erase hd h1]
  exact h.erase i
end Go.Proofs.YtandadfphlandaaGreatDoor
namespace Go.Proofs.YtandadfphlandaaGreatDoor
open Go.RowKit Go.BigFrame
section
variable {X : Nat → Prop} {ap : Option Addr} {L : List OpN} {w : World}
theorem OpsX.take (h : OpsX X ap L w) (j : Nat) : OpsX X ap (L.take j) w := by
  rcases h with rfl | ⟨b, o, rfl, h2, h3⟩
  · exact .inl (by simp)
  · refine .inr ⟨b, o, rfl, h2, fun i x hx => h3 i x ?_⟩
    have hi := (List.getElem?_eq_some_iff.1 hx).1
    rw [List.length_take] at hi
    rw [List.getElem?_take_of_lt (by omega)] at hx
    exact hx
theorem OpsX.drop {c j : Nat} (h : OpsX X ap L w) (hc : L.length ≤ c) : OpsX X (if c = j then ap else ap.map (·.add (j * 38))) (L.drop j) w := by
  by_cases hj : L.length ≤ j
  · exact .inl (List.drop_eq_nil_of_le hj)
  rw [if_neg (by omega)]
  rcases h with rfl | ⟨b, o, rfl, h2, h3⟩
  · exact .inl (by simp)
  · refine .inr ⟨b, o + j * 38, by simp [Addr.add_lit], h2, fun i x hx => ?_⟩
    rw [List.getElem?_drop] at hx
    have := h3 (j + i) x hx
    rwa [show o + (j + i) * 38 = o + j * 38 + i * 38 by omega] at this
theorem OwnX.cap {B : Nat} {e : TypeId} {ao : Option Addr} {n c : Nat} (h : OwnX X B e (.slice ao n c) L w) : L.length ≤ c := by
  obtain ⟨ao', c', hv⟩ := h.form
  injection hv with _ hn _
  obtain ⟨fl, h1, _⟩ := h
  rcases h1.2 with ⟨h0, h2⟩ | ⟨g, cap, cur, h0, _, _, hk, _⟩
  · rw [h2]; exact Nat.zero_le _
  · injection h0 with _ _ h5
    rw [h5]; exact hk
end
section
variable {o : Oper} {a : Act} {w : World} {K : Act → World → Prop} {Q : Exit → Act → World → Prop}
theorem op_empty_ops (ho : o.op = .buildSlice 29 0 #[]) (h : K (a.put o.dst (.slice (some ⟨w.heap.size, 0, none⟩) 0 0)) (w.alloc (.cells #[] 38))) : OpWp Tryz.prog o a w K Q := by
  have hr : (Instr.buildSlice 29 0 #[]).run Tryz.prog w = .ok (.slice (some ⟨w.heap.size, 0, none⟩) 0 0) (w.alloc (.cells #[] 38)) := by go_simp
  refine ⟨?_⟩
  unfold Oper.wp execOp
  simp only [ho, Sem.run_bind, Array.map_empty, hr, Result.andThen_ok]
  exact h
theorem op_empty_ids (ho : o.op = .buildSlice 34 0 #[]) (h : K (a.put o.dst (.slice (some ⟨w.heap.size, 0, none⟩) 0 0)) (w.alloc (.cells #[] 25))) : OpWp Tryz.prog o a w K Q := by
  have hr : (Instr.buildSlice 34 0 #[]).run Tryz.prog w = .ok (.slice (some ⟨w.heap.size, 0, none⟩) 0 0) (w.alloc (.cells #[] 25)) := by go_simp
  refine ⟨?_⟩
  unfold Oper.wp execOp
  simp only [ho, Sem.run_bind, Array.map_empty, hr, Result.andThen_ok]
  exact h
end
def CutO (X : Nat → Prop) (wb : World) (L : List OpN) (i : Nat) : Nat → Value → World → Prop
  | 0, _, w' => Below wb.heap.size wb w'
  | 1, v, w' => Below wb.heap.size wb w' ∧ OwnX X wb.heap.size 38 v [] w'
  | 2, v, w' => Below wb.heap.size wb w' ∧ OwnX X wb.heap.size 38 v (L.take i) w'
  | _, v, w' => Below wb.heap.size wb w' ∧ OwnX X wb.heap.size 38 v (L.take i ++ L.drop (i + 1)) w'
def CutI (wb : World) (L : List (List Nat)) (i : Nat) : Nat → Value → World → Prop
  | 0, _, w' => Below wb.heap.size wb w'
  | 1, v, w' => Below wb.heap.size wb w' ∧ OwnI wb.heap.size 25 v [] w'
  | 2, v, w' => Below wb.heap.size wb w' ∧ OwnI wb.heap.size 25 v (L.take i) w'
  | _, v, w' => Below wb.heap.size wb w' ∧ OwnI wb.heap.size 25 v (L.take i ++ L.drop (i + 1)) w'
theorem Moved.new {B : Nat} {v u : Value} {w : World} (h : ∀ k, v.ownBlock = some k → B ≤ k) (hB : w.heap.size ≤ B) : Moved v u w := fun b hb => .inr (Nat.le_trans hB (h b hb))
theorem add_one (i : Nat) (h : i ≤ 1000000) (w : World) : (binOp .add 3 (.int .i64 (i : Int)) (.int .i64 1)).run Tryz.prog w = .ok (.int .i64 ((i + 1 : Nat) : Int)) w := by
  have e : IntKind.i64.wrap ((i : Int) + 1) = ((i + 1 : Nat) : Int) := by
    simp [IntKind.wrap, IntKind.bits, IntKind.signed]
    omega
  rw [← e]
  go_simp
theorem RefL.only {X O : Nat → Prop} {gs : Nat} {vo vw vn vq : Value} {A W : List OpN} {N Q : List (List Nat)} {w w' : World} (h : RefL X gs vo vw vn vq A W N Q w) (k : Only O w w') (hO : ∀ b, O b → X b) (hn : ∀ b, RefX gs vo vw vn vq b → ¬ O b) : RefL X gs vo vw vn vq A W N Q w' :=
  ⟨h.cells.only k (hn _ (.inl rfl)), h.ops.only k hO (fun g hg => hn g (.inr (.inl hg))), h.wait.only k hO (fun g hg => hn g (.inr (.inr (.inl hg)))), h.names.only k (fun g hg => hn g (.inr (.inr (.inr (.inl hg))))), h.waits.only k (fun g hg => hn g (.inr (.inr (.inr (.inr hg))))), h.mine, h.apart, h.apartN⟩
theorem erase_cut {α : Type} (L : List α) (i : Nat) : L.take i ++ L.drop (i + 1) = L.eraseIdx i := (List.eraseIdx_eq_take_drop_succ L i).symm
end Go.Proofs.YtandadfphlandaaGreatDoor
