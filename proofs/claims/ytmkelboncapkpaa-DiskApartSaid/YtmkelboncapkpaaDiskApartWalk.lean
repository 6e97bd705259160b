/-
  The law DiskApart: its walk.
-/
import Derived.Test.YtmkelboncapkpaaDoes2
import Derived.Test.YtmkelboncapkpaaDiskDoesWalk
import Derived.Test.YtmkelboncapkpaaWas
namespace Go.Proofs.Ytmkelboncapkpaa
open Go.RowKit Go.BigFrame

/-- Two disks in the same state, and a third, that the call made. -/
def TrioL (B : Nat) (w0 : World) (vd vm vq : Value) (s sq : DS) (w : World) : Prop := ∃ Od Om Oq, Duo Od Om vd vm s s w ∧ DiskIs Oq vq sq w ∧ (∀ b, Oq b → ¬ U Od Om b) ∧ (∀ b, U Od Om b ∨ Oq b → B ≤ b) ∧ Below B w0 w ∧ B ≤ w.heap.size
theorem TrioL.below {B : Nat} {w0 : World} {vd vm vq : Value} {s sq : DS} {w w' : World} (h : TrioL B w0 vd vm vq s sq w) (k : Below w.heap.size w w') : TrioL B w0 vd vm vq s sq w' := by
  obtain ⟨Od, Om, Oq, hd, hq, ha, hO, hb, hB⟩ := h
  exact ⟨Od, Om, Oq, hd.below k, hq.only (Only.of (O := fun _ => False) k) (fun _ _ => id), ha, hO, hb.trans (k.mono hB), Nat.le_trans hB k.size⟩
/-- A step on the first two. -/
theorem TrioL.step {B : Nat} {w0 : World} {vd vm vq : Value} {s' sq : DS} {w w' : World} {Od Om Oq Od' Om' : Nat → Prop} (hq : DiskIs Oq vq sq w) (ha : ∀ b, Oq b → ¬ U Od Om b) (hO : ∀ b, U Od Om b ∨ Oq b → B ≤ b) (hb : Below B w0 w) (hB : B ≤ w.heap.size)
    (hd : Duo Od' Om' vd vm s' s' w') (ht : Turn (U Od Om) (U Od' Om') w w') : TrioL B w0 vd vm vq s' sq w' :=
  ⟨Od', Om', Oq, hd, hq.only ht.only ha, fun b hb e => by
    rcases ht.own b e with h | h
    · exact ha b hb h
    · have := hq.lt b hb; omega, fun b hb => by
    rcases hb with hb | hb
    · exact (ht.own b hb).elim (fun h => hO b (.inl h)) (Nat.le_trans hB)
    · exact hO b (.inr hb), Only.toBelow hb ht.only (fun b h => hO b (.inl h)) hB, Nat.le_trans hB ht.only.size⟩
/-- A step on the third, and one made besides. -/
theorem TrioL.step3 {B : Nat} {w0 : World} {vd vm vq v0 : Value} {s sq s0 : DS} {w w' : World} {Od Om Oq O0 Oq' O0' : Nat → Prop} (hd : Duo Od Om vd vm s s w) (ha : ∀ b, Oq b → ¬ U Od Om b) (h0 : ∀ b, O0 b → ¬ U Od Om b) (hO : ∀ b, U Od Om b ∨ Oq b → B ≤ b) (hO0 : ∀ b, O0 b → B ≤ b) (hb : Below B w0 w) (hB : B ≤ w.heap.size)
    (hq : Duo Oq' O0' vq v0 sq s0 w') (ht : Turn (U Oq O0) (U Oq' O0') w w') : TrioL B w0 vd vm vq s sq w' :=
  ⟨Od, Om, Oq', hd.only ht.only (fun b hb e => e.elim (fun e => ha b e hb) (fun e => h0 b e hb)), hq.d, fun b hb e => by
    rcases ht.own b (.inl hb) with h | h
    · exact h.elim (fun h => ha b h e) (fun h => h0 b h e)
    · have := hd.lt e; omega, fun b hb => by
    rcases hb with hb | hb
    · exact hO b (.inl hb)
    · rcases ht.own b (.inl hb) with h | h
      · exact h.elim (fun h => hO b (.inr h)) (hO0 b)
      · exact Nat.le_trans hB h, Only.toBelow hb ht.only (fun b h => h.elim (fun h => hO b (.inr h)) (hO0 b)) hB, Nat.le_trans hB ht.only.size⟩
theorem stepS_len (s : DS) (c : CallN) : (stepS s c).safe.length = s.safe.length := by
  unfold stepS
  split
  · exact writeS_len _ _ _
  · split
    · rfl
    · split
      · exact syncS_len _
      · split
        · exact goneS_len _ _
        · split
          · rfl
          · split
            · rfl
            · rfl
theorem stK_len (n : Int) (L : List CallAt) : ∀ k, k ≤ L.length → (stK n L k).safe.length = sizeN n
  | 0, _ => by rw [stK_zero, newS, List.length_replicate]
  | k + 1, h => by rw [stK_next n (by omega), stepS_len, stK_len n L k (by omega)]
/-- The disk behind On, Sync, On. -/
theorem sync_rest (s : DS) : (onS (syncS (onS s))).pend = [] ∧ (onS (syncS (onS s))).off = false ∧ (onS (syncS (onS s))).safe.length = s.safe.length := by
  have h0 : (onS s).off = false := rfl
  refine ⟨?_, rfl, ?_⟩
  · show (syncS (onS s)).pend = []
    rw [syncS, if_neg (by rw [h0]; decide)]
    split
    · rename_i hf
      have h1 : (onS s).fuse = 1 := by simpa [failS] using hf
      rw [actS_one h1, goneS, if_neg (by rw [h0]; decide)]
    · rfl
  · show (syncS (onS s)).safe.length = _
    rw [syncS_len]
    rfl
theorem gone_rest {s : DS} (hp : s.pend = []) (ho : s.off = false) (keep : Nat) : (onS (goneS s keep)).pend = [] ∧ (onS (goneS s keep)).off = false ∧ (onS (goneS s keep)).safe = s.safe := by
  rw [goneS, if_neg (by rw [ho]; decide), hp]
  exact ⟨rfl, rfl, rfl⟩
theorem read_rest {s : DS} (hp : s.pend = []) (ho : s.off = false) {i : Nat} (hi : i < s.safe.length) : whyS s i = 0 ∧ readB s i = s.safe.getD i [] := by
  have h1 : whyS s i = 0 := by rw [whyS_in hi, ho]; rfl
  refine ⟨h1, ?_⟩
  rw [readB, if_pos h1, readS, hp]
  rfl
/-- Behind On, Sync: it went, or the power did. -/
theorem sync_tells (s : DS) : syncE (onS s) = 0 ∨ (syncS (onS s)).off = true := by
  have h0 : (onS s).off = false := rfl
  cases hf : failS (onS s) with
  | true =>
    right
    have h1 : (onS s).fuse = 1 := by simpa [failS] using hf
    rw [syncS, if_neg (by rw [h0]; decide), if_pos hf, actS_one h1, goneS, if_neg (by rw [h0]; decide)]
  | false =>
    left
    rw [syncE, if_neg (by rw [h0, hf]; decide)]

/-- A disk without sectors is made in a region, by its number 1. -/
def Made0 (w0 : World) (q : Nat → Bool) (V : Nat → Value) (w : World) : Prop := Below w0.heap.size w0 w ∧ (q 1 = true → ∃ g vS vA vD, V 1 = .pointer (some ⟨g, 0, none⟩) ∧ RefAt g vS vA vD (newS 0) w ∧ ∀ b, refO g vS vA vD b → w0.heap.size ≤ b)
theorem Made0.none {w0 : World} {V : Nat → Value} : Made0 w0 (fun _ => false) V w0.drew := ⟨(Below.refl _ _).drew, fun h => by cases h⟩
theorem Made0.ne {w0 : World} {q : Nat → Bool} {V : Nat → Value} {w : World} (h : Made0 w0 q V w) {i : Nat} {u : Value} (hi : 1 ≠ i) : Made0 w0 (fun j => q j || j == i) (upd V i u) w := ⟨h.1, fun hq => by
  rw [upd_ne V u hi]
  exact h.2 (seen_ne hi hq)⟩
theorem Made0.made {w0 : World} {q : Nat → Bool} {V : Nat → Value} {w w' : World} (h : Made0 w0 q V w) {g : Nat} {vS vA vD : Value} (hr : RefAt g vS vA vD (newS 0) w') (hm : ∀ b, refO g vS vA vD b → w.heap.size ≤ b) (hb : Below w.heap.size w w') :
    Made0 w0 (fun j => q j || j == 1) (upd V 1 (.pointer (some ⟨g, 0, Option.none⟩))) w' :=
  ⟨h.1.trans (hb.mono h.1.size), fun _ => ⟨g, vS, vA, vD, upd_same _ _ _, hr, fun b hb' => Nat.le_trans h.1.size (hm b hb')⟩⟩

namespace diskApart
set_option maxHeartbeats 4000000 in
set_option maxRecDepth 100000 in
theorem walk (w : World) (n : Int) (_hn : (Lit.int .i64 n).wf = true) (ao : Option Addr) (L : List CallAt) (cap : Nat) (h : ScriptAt ao L w) (hok : ∀ x ∈ L, x.Ok w) (hl : L.length ≤ 140737488351232)
    (bo : Option Addr) (M : List CallAt) (bap : Nat) (hM : ScriptAt bo M w) (hMok : ∀ x ∈ M, x.Ok w) (hMl : M.length ≤ 140737488351232) (keep : Int) (hkeep : (Lit.int .u64 keep).wf = true) :
    Calls Try.prog 6 #[.int .i64 n, .slice ao L.length cap, .slice bo M.length bap, .int .u64 keep] w fun e w' => e = .returned (.bool true) ∧ Below w.heap.size w w' := by
  have hkk : (0 : Int) ≤ keep ∧ keep ≤ 18446744073709551615 := by
    simp only [Lit.wf, Bool.and_eq_true, decide_eq_true_eq] at hkeep
    exact ⟨hkeep.1, hkeep.2⟩
  obtain ⟨kp, rfl⟩ : ∃ kp : Nat, keep = kp := ⟨keep.toNat, by omega⟩
  have HKP := Lib.hid (show kp < 18446744073709551616 by omega)
  clear hkeep hkk
  have H := Lib.hid h
  have HOK := Lib.hid hok
  have HM := Lib.hid hM
  have HMOK := Lib.hid hMok
  have HGA : ∀ (co : Option Addr) (K : List CallAt) (kc : Nat), ScriptAt co K w → (∀ x ∈ K, x.Ok w) → K.length ≤ 140737488351232 → ∀ (w' : World), Below w.heap.size w w' → Calls Try.prog 8 #[.slice co K.length kc] w' fun e w'' => e = .returned (.bool (greatN K)) ∧ Below w'.heap.size w' w'' := fun co K kc hs hk hkl w' hb => great7_any co K kc w' (by
      rcases hs with h | ⟨b, o, h1, h2, h3⟩
      · exact .inl h
      · exact .inr ⟨b, o, h1, Nat.lt_of_lt_of_le h2 hb.size, fun i hi => range_below (h3 i hi) hb h2⟩) (fun x hx => ⟨(hk x hx).nums.below hb, fun hne a ha => Nat.lt_of_lt_of_le ((hk x hx).block hne a ha) hb.size, (hk x hx).low, (hk x hx).high, (hk x hx).keep, (hk x hx).long⟩) hkl
  have HG1 := Lib.hid (HGA ao L cap h hok hl)
  have HG2 := Lib.hid (HGA bo M bap hM hMok hMl)
  obtain ⟨G1, hG1⟩ : ∃ G, greatN L = G := ⟨_, rfl⟩
  obtain ⟨G2, hG2⟩ : ∃ G, greatN M = G := ⟨_, rfl⟩
  rw [hG1] at HG1
  rw [hG2] at HG2
  have HGE1 := Shut.mk hG1
  have HGE2 := Shut.mk hG2
  clear h hok hM hMok hG1 hG2 HGA
  go_enter Try.func6, Try.ntmps6
  go_wp2_with fail
  refine (alive7_any w).mono ?_
  rintro e w1 ⟨rfl, hb1⟩
  have HB1 := Lib.hid hb1
  clear hb1
  by_cases hn0 : n < 0
  · go_wp2_with fail
    go_ret
    exact ⟨rfl, HB1.out⟩
  by_cases hn1 : 20 < n
  · go_wp2_with fail
    go_ret
    exact ⟨rfl, HB1.out⟩
  obtain ⟨N, rfl⟩ : ∃ N : Nat, n = N := ⟨n.toNat, by omega⟩
  have hN20 : N ≤ 20 := by omega
  have HSZ := Shut.mk (show sizeN (N : Int) = N by rw [sizeN]; omega)
  have HN20 := Lib.hid hN20
  go_wp2_with fail
  refine (HG1.out w1 HB1.out).mono ?_
  rintro e w2 ⟨rfl, hb2⟩
  have HB2 := Lib.hid (HB1.out.trans (hb2.mono HB1.out.size))
  clear hb2 HB1 HG1
  cases G1 with
  | true =>
    go_wp2_with fail
    go_ret
    exact ⟨rfl, HB2.out⟩
  | false =>
    obtain ⟨g1, g2⟩ := great_not HGE1.out
    have HLB := Lib.hid g2
    have HL100 := Lib.hid g1
    clear g2 g1
    go_wp2_with fail
    refine (HG2.out w2 HB2.out).mono ?_
    rintro e w3 ⟨rfl, hb3⟩
    have HB3 := Lib.hid (HB2.out.trans (hb3.mono HB2.out.size))
    clear hb3 HB2 HG2
    cases G2 with
    | true =>
      go_wp2_with fail
      go_ret
      exact ⟨rfl, HB3.out⟩
    | false =>
      obtain ⟨g1, g2⟩ := great_not HGE2.out
      have HMB := Lib.hid g2
      have HM100 := Lib.hid g1
      clear g2 g1
      go_wp2_with fail
      refine (dev7_new N w3).mono ?_
      rintro e w4 ⟨⟨vd, Od, rfl, hd, hO⟩, hb4⟩
      obtain ⟨ad, rfl⟩ := hd.ptr
      have HD := Lib.hid hd
      have HO := Lib.hid hO
      have HB4 := Lib.hid (HB3.out.trans (hb4.mono HB3.out.size))
      have HW3 := Lib.hid HB3.out.size
      have HW4 := Lib.hid (Nat.le_trans HB3.out.size hb4.size)
      clear hd hO hb4 HB3
      go_wp2_with fail
      refine (dev7_new N w4).mono ?_
      rintro e w5 ⟨⟨vq, Oq, rfl, hq, hOq⟩, hb5⟩
      obtain ⟨aq, rfl⟩ := hq.ptr
      have HD5 := Lib.hid (HD.out.only (Only.of (O := fun _ => False) hb5) (fun _ _ => id))
      have HQ := Lib.hid hq
      have HOQ := Lib.hid hOq
      have HB5 := Lib.hid (HB4.out.trans (hb5.mono HW4.out))
      have HW5 := Lib.hid (Nat.le_trans HW4.out hb5.size)
      clear hq hOq hb5 HB4
      go_wp2_with fail
      refine (ref_new N w5).mono ?_
      rintro e w6 ⟨⟨g, vS, vA, vD, rfl, hr, hm⟩, hb6⟩
      have HTR := Lib.hid (show TrioL w.heap.size w (.pointer (some ad)) (.pointer (some ⟨g, 0, none⟩)) (.pointer (some aq)) (stK N L 0) (newS N) w6 by
        rw [stK_zero]
        refine ⟨Od, refO g vS vA vD, Oq, ⟨HD5.out.only (Only.of (O := fun _ => False) hb6) (fun _ _ => id), ⟨g, vS, vA, vD, rfl, rfl, hr⟩, fun b hb e => ?_⟩, HQ.out.only (Only.of (O := fun _ => False) hb6) (fun _ _ => id), fun b hb e => ?_, fun b hb => ?_, HB5.out.trans (hb6.mono HW5.out), Nat.le_trans HW5.out hb6.size⟩
        · have h1 := HD5.out.lt b hb
          have h2 := hm b e
          omega
        · have h1 := HOQ.out b hb
          have h2 := HQ.out.lt b hb
          rcases e with e | e
          · have := HD.out.lt b e; omega
          · have := hm b e; omega
        · rcases hb with (hb | hb) | hb
          · exact Nat.le_trans HW3.out (HO.out b hb)
          · exact Nat.le_trans HW5.out (hm b hb)
          · exact Nat.le_trans HW4.out (HOQ.out b hb))
      clear hr hm hb6 HD HO HB5 HW3 HW4 HD5 HQ HOQ
      go_wp2_with fail
      go_loopw [45] (fun i wq => ∃ k : Nat, k ≤ L.length ∧ i = .int .i64 k ∧ ∃ sq, Fit sq k ∧ TrioL w.heap.size w (.pointer (some ad)) (.pointer (some ⟨g, 0, none⟩)) (.pointer (some aq)) (stK N L k) sq wq) (fun i _ => L.length - (intOf i).toNat)
      case atStart => exact ⟨0, by omega, rfl, _, fit_new _, HTR.out⟩
      case round =>
        clear HTR
        obtain ⟨k, hk, rfl, sq, hfq, htr⟩ := hrel
        have HTR := Lib.hid htr
        have HFQ := Lib.hid hfq
        clear htr hfq
        by_cases hlk : k < L.length
        · have hlk2 : (k : Int) < (L.length : Int) := by omega
          obtain ⟨b, o, rfl, hbb, hr⟩ := H.out.some hlk
          obtain ⟨Od, Om, Oq, hdd, hq, haq, hOO, hbw, hBw⟩ := HTR.out
          have HR := Lib.hid (range_below hr hbw hbb)
          have hx := HOK.out _ (List.getElem_mem hlk)
          have HX := Lib.hid hx
          have HXL := Lib.hid (HLB.out _ (List.getElem_mem hlk))
          have HNX := Shut.mk (stK_next N hlk)
          have HFT := Lib.hid ((fit_stK N HOK.out (k := k) (by omega)).mono (show k ≤ 100 by have := HL100.out; omega))
          obtain ⟨x, hxe⟩ : ∃ x, L[k] = x := ⟨_, rfl⟩
          rw [hxe] at HR HX HXL HNX
          obtain ⟨c, co, cc⟩ := x
          simp only at HX HXL HNX HR
          have HV1 := Lib.hid (callV_one c co cc)
          have HI4 := Lib.hid (show (Try.prog.info? 32).map (·.size) = some (callV c co cc).toList.length from Try.infoCall7)
          have HI5 := Lib.hid (show (Try.prog.info? 32).map (·.size) = some (callV c co cc).size from Try.infoCall7)
          have HZN := Lib.hid (show Cells wr.heap.size 32 (callV ⟨0, 0, [], 0⟩ none 0) (wr.alloc (.cells (callV ⟨0, 0, [], 0⟩ none 0) 32)) from heap_alloc_new wr _)
          have HZS := Lib.hid (show (callV ⟨0, 0, [], 0⟩ none 0).size = (callV c co cc).size from rfl)
          have HDO := Lib.hid (fun (w' : World) (hb : Below wr.heap.size wr w') => does_any Od Om _ _ (stK N L k) c co cc 100 w' (hdd.below hb) HFT.out (by omega) ((HX.out.nums.below hbw).below (hb.mono (Nat.le_refl _))) (fun hne a ha e => by
            have h1 := HX.out.block hne a ha
            have h2 := hOO _ (.inl e)
            omega) (by have := HXL.out; omega) HX.out.low HX.out.high HX.out.keep)
          rw [← HNX.out] at HDO
          obtain ⟨S1, hS1⟩ : ∃ S1, stK N L (k + 1) = S1 := ⟨_, rfl⟩
          rw [hS1] at HDO
          have HS1 := Shut.mk hS1
          have HQ := Lib.hid hq
          have HAQ := Lib.hid haq
          have HOO := Lib.hid hOO
          have HBW := Lib.hid hbw
          have HBB := Lib.hid hBw
          obtain ⟨V, hV⟩ : ∃ V, callV c co cc = V := ⟨_, rfl⟩
          rw [hV] at HR HV1 HI4 HI5 HZS HDO
          clear hr hbb hx hxe hV hS1 hdd hq haq hOO hbw hBw HTR
          go_wp2_with (first
            | (refine wpList_load_mid rfl 32 _ rfl b (o + k * 4) rfl V.toList _ HR.out Try.underlying32 rfl HI4.out ?_)
            | (refine wpList_store_cells rfl 32 _ _ rfl rfl wr.heap.size _ V 32 rfl rfl HZN.out HI5.out HZS.out HV1.out ?_))
          intro w5 hc5 hb5
          have hb55 : Below wr.heap.size wr w5 := But.toBelow ((Below.refl _ _).alloc (Nat.le_refl _) (.cells (callV ⟨0, 0, [], 0⟩ none 0) 32)) hb5.out (Nat.le_refl _) (by simp)
          have HC5 := Lib.hid hc5.out
          have HB5 := Lib.hid (HBW.out.trans (hb55.mono HBB.out))
          have HBZ := Lib.hid (Nat.le_trans HBB.out hb55.size)
          have HD5 := Lib.hid (HDO.out w5 hb55)
          have HQ5 := Lib.hid (HQ.out.only (Only.of (O := fun _ => False) hb55) (fun _ _ => id))
          clear hc5 hb5 hb55 HR HZN HDO HBW HBB HQ
          go_wp2_with (refine wpList_load_cells rfl 32 _ rfl wr.heap.size V 32 _ rfl HC5.out Try.underlying32 rfl HI5.out ?_)
          refine HD5.out.mono ?_
          rintro e w6 ⟨rfl, Od', Om', hd6, ht6⟩
          have HL6 := Lib.hid (TrioL.step HQ5.out HAQ.out HOO.out HB5.out HBZ.out hd6 ht6)
          clear hd6 ht6 HC5 HB5 HBZ HD5 HOO HQ5 HAQ
          by_cases hmk : k < M.length
          · have hmk2 : (k : Int) < (M.length : Int) := by omega
            obtain ⟨b2, o2, rfl, hbb2, hr2⟩ := HM.out.some hmk
            obtain ⟨Od, Om, Oq, hdd, hq, haq, hOO, hbw, hBw⟩ := HL6.out
            have HR2 := Lib.hid (range_below hr2 hbw hbb2)
            have HX2 := Lib.hid (HMOK.out _ (List.getElem_mem hmk))
            have HXL2 := Lib.hid (HMB.out _ (List.getElem_mem hmk))
            obtain ⟨x, hxe⟩ : ∃ x, M[k] = x := ⟨_, rfl⟩
            rw [hxe] at HR2 HX2 HXL2
            obtain ⟨c2, co2, cc2⟩ := x
            simp only at HX2 HXL2 HR2
            have HIX := Lib.hid (show ∀ w, (Instr.indexAt 22 (.slice (some ⟨b2, o2, none⟩) M.length bap) (.int .i64 k)).run Try.prog w = .ok (.pointer (some ⟨b2, o2 + k * 4, none⟩)) w from fun w => by go_simp)
            have HF0 := Lib.hid (show ∀ w, (Instr.fieldAt 32 (.pointer (some ⟨b2, o2 + k * 4, none⟩)) 0).run Try.prog w = .ok (.pointer (some ⟨b2, o2 + k * 4 + 0, none⟩)) w from fun w => by go_simp)
            have HF1 := Lib.hid (show ∀ w, (Instr.fieldAt 32 (.pointer (some ⟨b2, o2 + k * 4, none⟩)) 1).run Try.prog w = .ok (.pointer (some ⟨b2, o2 + k * 4 + 1, none⟩)) w from fun w => by go_simp)
            have HF2 := Lib.hid (show ∀ w, (Instr.fieldAt 32 (.pointer (some ⟨b2, o2 + k * 4, none⟩)) 2).run Try.prog w = .ok (.pointer (some ⟨b2, o2 + k * 4 + 2, none⟩)) w from fun w => by go_simp)
            have HF3 := Lib.hid (show ∀ w, (Instr.fieldAt 32 (.pointer (some ⟨b2, o2 + k * 4, none⟩)) 3).run Try.prog w = .ok (.pointer (some ⟨b2, o2 + k * 4 + 3, none⟩)) w from fun w => by go_simp)
            have HBD := Lib.hid (show ∀ w, (Instr.build 32 [(0, Value.int .i64 c2.kind), (1, Value.int .i64 c2.at'), (2, Value.slice co2 c2.b.length cc2), (3, Value.int .u64 (c2.keep : Int))].toArray).run Try.prog w = .ok (.agg (callV c2 co2 cc2)) w from fun w => run_build w _ _ _ rfl)
            have hw6 : b2 < w6.heap.size := Nat.lt_of_lt_of_le hbb2 hbw.size
            have HCX := Lib.hid (fun (j : Nat) (v : Value) (hv : (callV c2 co2 cc2).toList[j]? = some v) (wq : World) (hb : Below w6.heap.size w6 wq) => show wq.cell? ⟨b2, o2 + k * 4 + j, none⟩ = some v from range_below HR2.out hb hw6 j v hv)
            have HR0c := Lib.hid (HCX.out 0 (.int .i64 c2.kind) rfl)
            have HR1c := Lib.hid (HCX.out 1 (.int .i64 c2.at') rfl)
            have HR2c := Lib.hid (HCX.out 2 (.slice co2 c2.b.length cc2) rfl)
            have HR3c := Lib.hid (HCX.out 3 (.int .u64 (c2.keep : Int)) rfl)
            clear hr2 hbb2 hxe HCX hw6
            go_upto_region 13 with (fail)
            -- REGION
            refine wp_region_free 23 (fun q V w' => Made0 w6 q V w' ∧ Val q V 0 (.pointer (some aq)) ∧ Val q V 2 (.slice (some ⟨b2, o2, none⟩) M.length bap) ∧ Val q V 3 (.int .i64 k) ∧ Val q V 4 (.pointer (some ⟨b2, o2 + k * 4, none⟩)) ∧ Val q V 5 (.pointer (some ⟨b2, o2 + k * 4 + 0, none⟩)) ∧ Val q V 6 (.int .i64 c2.kind) ∧ Val q V 7 (.slice (some ⟨b2, o2, none⟩) M.length bap) ∧ Val q V 8 (.int .i64 k) ∧ Val q V 9 (.pointer (some ⟨b2, o2 + k * 4, none⟩)) ∧ Val q V 10 (.pointer (some ⟨b2, o2 + k * 4 + 1, none⟩)) ∧ Val q V 11 (.int .i64 c2.at') ∧ Val q V 12 (.slice (some ⟨b2, o2, none⟩) M.length bap) ∧ Val q V 13 (.int .i64 k) ∧ Val q V 14 (.pointer (some ⟨b2, o2 + k * 4, none⟩)) ∧ Val q V 15 (.pointer (some ⟨b2, o2 + k * 4 + 2, none⟩)) ∧ Val q V 16 (.slice co2 c2.b.length cc2) ∧ Val q V 17 (.slice (some ⟨b2, o2, none⟩) M.length bap) ∧ Val q V 18 (.int .i64 k) ∧ Val q V 19 (.pointer (some ⟨b2, o2 + k * 4, none⟩)) ∧ Val q V 20 (.pointer (some ⟨b2, o2 + k * 4 + 3, none⟩)) ∧ Val q V 21 (.int .u64 (c2.keep : Int)) ∧ Val q V 22 (.agg (callV c2 co2 cc2))) (fun | 0 => u59 | 1 => u60 | 2 => u61 | 3 => u62 | 4 => u63 | 5 => u64 | 6 => u65 | 7 => u66 | 8 => u67 | 9 => u68 | 10 => u69 | 11 => u70 | 12 => u71 | 13 => u72 | 14 => u73 | 15 => u74 | 16 => u75 | 17 => u76 | 18 => u77 | 19 => u78 | 20 => u79 | 21 => u80 | _ => u81) (by kernel_rfl) (by kernel_rfl) (by kernel_rfl) (by simp only [List.take_succ_cons, List.take_zero, putAll, Act.put, List.setIfInBounds_toArray, List.set_cons_zero, List.set_cons_succ]) ⟨Made0.none, Val.none, Val.none, Val.none, Val.none, Val.none, Val.none, Val.none, Val.none, Val.none, Val.none, Val.none, Val.none, Val.none, Val.none, Val.none, Val.none, Val.none, Val.none, Val.none, Val.none, Val.none, Val.none⟩ ?_ ?_
            · simp only [List.take_succ_cons, List.take_zero, putAll, Nat.zero_add, Nat.reduceAdd, Act.put, List.setIfInBounds_toArray, List.set_cons_zero, List.set_cons_succ]
              refine FreeSteps.cons ?_ (FreeSteps.cons ?_ (FreeSteps.cons ?_ (FreeSteps.cons ?_ (FreeSteps.cons ?_ (FreeSteps.cons ?_ (FreeSteps.cons ?_ (FreeSteps.cons ?_ (FreeSteps.cons ?_ (FreeSteps.cons ?_ (FreeSteps.cons ?_ (FreeSteps.cons ?_ (FreeSteps.cons ?_ (FreeSteps.cons ?_ (FreeSteps.cons ?_ (FreeSteps.cons ?_ (FreeSteps.cons ?_ (FreeSteps.cons ?_ (FreeSteps.cons ?_ (FreeSteps.cons ?_ (FreeSteps.cons ?_ (FreeSteps.cons ?_ (FreeSteps.cons ?_ (FreeSteps.nil)))))))))))))))))))))))
              all_goals (refine FreeStep.plain rfl ?_; rintro q V wq hr ⟨hM, h0, h2, h3, h4, h5, h6, h7, h8, h9, h10, h11, h12, h13, h14, h15, h16, h17, h18, h19, h20, h21, h22⟩ K hK)
              · exact op_move (.tmp 10) rfl _ rfl (hK _ _ ⟨hM.ne (by decide), .same, h2.ne (by decide), h3.ne (by decide), h4.ne (by decide), h5.ne (by decide), h6.ne (by decide), h7.ne (by decide), h8.ne (by decide), h9.ne (by decide), h10.ne (by decide), h11.ne (by decide), h12.ne (by decide), h13.ne (by decide), h14.ne (by decide), h15.ne (by decide), h16.ne (by decide), h17.ne (by decide), h18.ne (by decide), h19.ne (by decide), h20.ne (by decide), h21.ne (by decide), h22.ne (by decide)⟩)
              · refine op_call Try.func10 rfl rfl rfl [.int .i64 0] rfl (ref_new 0 wq) ?_
                rintro e w' ⟨⟨g0, v1, v2, v3, rfl, hr0, hm0⟩, hb0⟩
                exact ⟨_, rfl, hK _ _ ⟨hM.made hr0 hm0 hb0, h0.ne (by decide), h2.ne (by decide), h3.ne (by decide), h4.ne (by decide), h5.ne (by decide), h6.ne (by decide), h7.ne (by decide), h8.ne (by decide), h9.ne (by decide), h10.ne (by decide), h11.ne (by decide), h12.ne (by decide), h13.ne (by decide), h14.ne (by decide), h15.ne (by decide), h16.ne (by decide), h17.ne (by decide), h18.ne (by decide), h19.ne (by decide), h20.ne (by decide), h21.ne (by decide), h22.ne (by decide)⟩⟩
              · exact op_move (.tmp 2) rfl _ rfl (hK _ _ ⟨hM.ne (by decide), h0.ne (by decide), .same, h3.ne (by decide), h4.ne (by decide), h5.ne (by decide), h6.ne (by decide), h7.ne (by decide), h8.ne (by decide), h9.ne (by decide), h10.ne (by decide), h11.ne (by decide), h12.ne (by decide), h13.ne (by decide), h14.ne (by decide), h15.ne (by decide), h16.ne (by decide), h17.ne (by decide), h18.ne (by decide), h19.ne (by decide), h20.ne (by decide), h21.ne (by decide), h22.ne (by decide)⟩)
              · exact op_move (.tmp 12) rfl _ rfl (hK _ _ ⟨hM.ne (by decide), h0.ne (by decide), h2.ne (by decide), .same, h4.ne (by decide), h5.ne (by decide), h6.ne (by decide), h7.ne (by decide), h8.ne (by decide), h9.ne (by decide), h10.ne (by decide), h11.ne (by decide), h12.ne (by decide), h13.ne (by decide), h14.ne (by decide), h15.ne (by decide), h16.ne (by decide), h17.ne (by decide), h18.ne (by decide), h19.ne (by decide), h20.ne (by decide), h21.ne (by decide), h22.ne (by decide)⟩)
              · exact op_indexAt 22 (.tmp 61) (.tmp 62) rfl _ _ _ (h2 (hr { on := 2, ground := .data } (by simp) rfl)) (h3 (hr { on := 3, ground := .data } (by simp) rfl)) HIX.out (hK _ _ ⟨hM.ne (by decide), h0.ne (by decide), h2.ne (by decide), h3.ne (by decide), .same, h5.ne (by decide), h6.ne (by decide), h7.ne (by decide), h8.ne (by decide), h9.ne (by decide), h10.ne (by decide), h11.ne (by decide), h12.ne (by decide), h13.ne (by decide), h14.ne (by decide), h15.ne (by decide), h16.ne (by decide), h17.ne (by decide), h18.ne (by decide), h19.ne (by decide), h20.ne (by decide), h21.ne (by decide), h22.ne (by decide)⟩)
              · exact op_fieldAt 32 (.tmp 63) 0 rfl _ _ (h4 (hr { on := 4, ground := .data } (by simp) rfl)) HF0.out (hK _ _ ⟨hM.ne (by decide), h0.ne (by decide), h2.ne (by decide), h3.ne (by decide), h4.ne (by decide), .same, h6.ne (by decide), h7.ne (by decide), h8.ne (by decide), h9.ne (by decide), h10.ne (by decide), h11.ne (by decide), h12.ne (by decide), h13.ne (by decide), h14.ne (by decide), h15.ne (by decide), h16.ne (by decide), h17.ne (by decide), h18.ne (by decide), h19.ne (by decide), h20.ne (by decide), h21.ne (by decide), h22.ne (by decide)⟩)
              · exact op_load_cell 3 (.tmp 64) rfl _ _ (h5 (hr { on := 5, ground := .data } (by simp) rfl)) (HR0c.out wq hM.1) Try.isAgg3 (hK _ _ ⟨hM.ne (by decide), h0.ne (by decide), h2.ne (by decide), h3.ne (by decide), h4.ne (by decide), h5.ne (by decide), .same, h7.ne (by decide), h8.ne (by decide), h9.ne (by decide), h10.ne (by decide), h11.ne (by decide), h12.ne (by decide), h13.ne (by decide), h14.ne (by decide), h15.ne (by decide), h16.ne (by decide), h17.ne (by decide), h18.ne (by decide), h19.ne (by decide), h20.ne (by decide), h21.ne (by decide), h22.ne (by decide)⟩)
              · exact op_move (.tmp 2) rfl _ rfl (hK _ _ ⟨hM.ne (by decide), h0.ne (by decide), h2.ne (by decide), h3.ne (by decide), h4.ne (by decide), h5.ne (by decide), h6.ne (by decide), .same, h8.ne (by decide), h9.ne (by decide), h10.ne (by decide), h11.ne (by decide), h12.ne (by decide), h13.ne (by decide), h14.ne (by decide), h15.ne (by decide), h16.ne (by decide), h17.ne (by decide), h18.ne (by decide), h19.ne (by decide), h20.ne (by decide), h21.ne (by decide), h22.ne (by decide)⟩)
              · exact op_move (.tmp 12) rfl _ rfl (hK _ _ ⟨hM.ne (by decide), h0.ne (by decide), h2.ne (by decide), h3.ne (by decide), h4.ne (by decide), h5.ne (by decide), h6.ne (by decide), h7.ne (by decide), .same, h9.ne (by decide), h10.ne (by decide), h11.ne (by decide), h12.ne (by decide), h13.ne (by decide), h14.ne (by decide), h15.ne (by decide), h16.ne (by decide), h17.ne (by decide), h18.ne (by decide), h19.ne (by decide), h20.ne (by decide), h21.ne (by decide), h22.ne (by decide)⟩)
              · exact op_indexAt 22 (.tmp 66) (.tmp 67) rfl _ _ _ (h7 (hr { on := 7, ground := .data } (by simp) rfl)) (h8 (hr { on := 8, ground := .data } (by simp) rfl)) HIX.out (hK _ _ ⟨hM.ne (by decide), h0.ne (by decide), h2.ne (by decide), h3.ne (by decide), h4.ne (by decide), h5.ne (by decide), h6.ne (by decide), h7.ne (by decide), h8.ne (by decide), .same, h10.ne (by decide), h11.ne (by decide), h12.ne (by decide), h13.ne (by decide), h14.ne (by decide), h15.ne (by decide), h16.ne (by decide), h17.ne (by decide), h18.ne (by decide), h19.ne (by decide), h20.ne (by decide), h21.ne (by decide), h22.ne (by decide)⟩)
              · exact op_fieldAt 32 (.tmp 68) 1 rfl _ _ (h9 (hr { on := 9, ground := .data } (by simp) rfl)) HF1.out (hK _ _ ⟨hM.ne (by decide), h0.ne (by decide), h2.ne (by decide), h3.ne (by decide), h4.ne (by decide), h5.ne (by decide), h6.ne (by decide), h7.ne (by decide), h8.ne (by decide), h9.ne (by decide), .same, h11.ne (by decide), h12.ne (by decide), h13.ne (by decide), h14.ne (by decide), h15.ne (by decide), h16.ne (by decide), h17.ne (by decide), h18.ne (by decide), h19.ne (by decide), h20.ne (by decide), h21.ne (by decide), h22.ne (by decide)⟩)
              · exact op_load_cell 3 (.tmp 69) rfl _ _ (h10 (hr { on := 10, ground := .data } (by simp) rfl)) (HR1c.out wq hM.1) Try.isAgg3 (hK _ _ ⟨hM.ne (by decide), h0.ne (by decide), h2.ne (by decide), h3.ne (by decide), h4.ne (by decide), h5.ne (by decide), h6.ne (by decide), h7.ne (by decide), h8.ne (by decide), h9.ne (by decide), h10.ne (by decide), .same, h12.ne (by decide), h13.ne (by decide), h14.ne (by decide), h15.ne (by decide), h16.ne (by decide), h17.ne (by decide), h18.ne (by decide), h19.ne (by decide), h20.ne (by decide), h21.ne (by decide), h22.ne (by decide)⟩)
              · exact op_move (.tmp 2) rfl _ rfl (hK _ _ ⟨hM.ne (by decide), h0.ne (by decide), h2.ne (by decide), h3.ne (by decide), h4.ne (by decide), h5.ne (by decide), h6.ne (by decide), h7.ne (by decide), h8.ne (by decide), h9.ne (by decide), h10.ne (by decide), h11.ne (by decide), .same, h13.ne (by decide), h14.ne (by decide), h15.ne (by decide), h16.ne (by decide), h17.ne (by decide), h18.ne (by decide), h19.ne (by decide), h20.ne (by decide), h21.ne (by decide), h22.ne (by decide)⟩)
              · exact op_move (.tmp 12) rfl _ rfl (hK _ _ ⟨hM.ne (by decide), h0.ne (by decide), h2.ne (by decide), h3.ne (by decide), h4.ne (by decide), h5.ne (by decide), h6.ne (by decide), h7.ne (by decide), h8.ne (by decide), h9.ne (by decide), h10.ne (by decide), h11.ne (by decide), h12.ne (by decide), .same, h14.ne (by decide), h15.ne (by decide), h16.ne (by decide), h17.ne (by decide), h18.ne (by decide), h19.ne (by decide), h20.ne (by decide), h21.ne (by decide), h22.ne (by decide)⟩)
              · exact op_indexAt 22 (.tmp 71) (.tmp 72) rfl _ _ _ (h12 (hr { on := 12, ground := .data } (by simp) rfl)) (h13 (hr { on := 13, ground := .data } (by simp) rfl)) HIX.out (hK _ _ ⟨hM.ne (by decide), h0.ne (by decide), h2.ne (by decide), h3.ne (by decide), h4.ne (by decide), h5.ne (by decide), h6.ne (by decide), h7.ne (by decide), h8.ne (by decide), h9.ne (by decide), h10.ne (by decide), h11.ne (by decide), h12.ne (by decide), h13.ne (by decide), .same, h15.ne (by decide), h16.ne (by decide), h17.ne (by decide), h18.ne (by decide), h19.ne (by decide), h20.ne (by decide), h21.ne (by decide), h22.ne (by decide)⟩)
              · exact op_fieldAt 32 (.tmp 73) 2 rfl _ _ (h14 (hr { on := 14, ground := .data } (by simp) rfl)) HF2.out (hK _ _ ⟨hM.ne (by decide), h0.ne (by decide), h2.ne (by decide), h3.ne (by decide), h4.ne (by decide), h5.ne (by decide), h6.ne (by decide), h7.ne (by decide), h8.ne (by decide), h9.ne (by decide), h10.ne (by decide), h11.ne (by decide), h12.ne (by decide), h13.ne (by decide), h14.ne (by decide), .same, h16.ne (by decide), h17.ne (by decide), h18.ne (by decide), h19.ne (by decide), h20.ne (by decide), h21.ne (by decide), h22.ne (by decide)⟩)
              · exact op_load_cell 29 (.tmp 74) rfl _ _ (h15 (hr { on := 15, ground := .data } (by simp) rfl)) (HR2c.out wq hM.1) Try.isAgg29 (hK _ _ ⟨hM.ne (by decide), h0.ne (by decide), h2.ne (by decide), h3.ne (by decide), h4.ne (by decide), h5.ne (by decide), h6.ne (by decide), h7.ne (by decide), h8.ne (by decide), h9.ne (by decide), h10.ne (by decide), h11.ne (by decide), h12.ne (by decide), h13.ne (by decide), h14.ne (by decide), h15.ne (by decide), .same, h17.ne (by decide), h18.ne (by decide), h19.ne (by decide), h20.ne (by decide), h21.ne (by decide), h22.ne (by decide)⟩)
              · exact op_move (.tmp 2) rfl _ rfl (hK _ _ ⟨hM.ne (by decide), h0.ne (by decide), h2.ne (by decide), h3.ne (by decide), h4.ne (by decide), h5.ne (by decide), h6.ne (by decide), h7.ne (by decide), h8.ne (by decide), h9.ne (by decide), h10.ne (by decide), h11.ne (by decide), h12.ne (by decide), h13.ne (by decide), h14.ne (by decide), h15.ne (by decide), h16.ne (by decide), .same, h18.ne (by decide), h19.ne (by decide), h20.ne (by decide), h21.ne (by decide), h22.ne (by decide)⟩)
              · exact op_move (.tmp 12) rfl _ rfl (hK _ _ ⟨hM.ne (by decide), h0.ne (by decide), h2.ne (by decide), h3.ne (by decide), h4.ne (by decide), h5.ne (by decide), h6.ne (by decide), h7.ne (by decide), h8.ne (by decide), h9.ne (by decide), h10.ne (by decide), h11.ne (by decide), h12.ne (by decide), h13.ne (by decide), h14.ne (by decide), h15.ne (by decide), h16.ne (by decide), h17.ne (by decide), .same, h19.ne (by decide), h20.ne (by decide), h21.ne (by decide), h22.ne (by decide)⟩)
              · exact op_indexAt 22 (.tmp 76) (.tmp 77) rfl _ _ _ (h17 (hr { on := 17, ground := .data } (by simp) rfl)) (h18 (hr { on := 18, ground := .data } (by simp) rfl)) HIX.out (hK _ _ ⟨hM.ne (by decide), h0.ne (by decide), h2.ne (by decide), h3.ne (by decide), h4.ne (by decide), h5.ne (by decide), h6.ne (by decide), h7.ne (by decide), h8.ne (by decide), h9.ne (by decide), h10.ne (by decide), h11.ne (by decide), h12.ne (by decide), h13.ne (by decide), h14.ne (by decide), h15.ne (by decide), h16.ne (by decide), h17.ne (by decide), h18.ne (by decide), .same, h20.ne (by decide), h21.ne (by decide), h22.ne (by decide)⟩)
              · exact op_fieldAt 32 (.tmp 78) 3 rfl _ _ (h19 (hr { on := 19, ground := .data } (by simp) rfl)) HF3.out (hK _ _ ⟨hM.ne (by decide), h0.ne (by decide), h2.ne (by decide), h3.ne (by decide), h4.ne (by decide), h5.ne (by decide), h6.ne (by decide), h7.ne (by decide), h8.ne (by decide), h9.ne (by decide), h10.ne (by decide), h11.ne (by decide), h12.ne (by decide), h13.ne (by decide), h14.ne (by decide), h15.ne (by decide), h16.ne (by decide), h17.ne (by decide), h18.ne (by decide), h19.ne (by decide), .same, h21.ne (by decide), h22.ne (by decide)⟩)
              · exact op_load_cell 30 (.tmp 79) rfl _ _ (h20 (hr { on := 20, ground := .data } (by simp) rfl)) (HR3c.out wq hM.1) Try.isAgg30 (hK _ _ ⟨hM.ne (by decide), h0.ne (by decide), h2.ne (by decide), h3.ne (by decide), h4.ne (by decide), h5.ne (by decide), h6.ne (by decide), h7.ne (by decide), h8.ne (by decide), h9.ne (by decide), h10.ne (by decide), h11.ne (by decide), h12.ne (by decide), h13.ne (by decide), h14.ne (by decide), h15.ne (by decide), h16.ne (by decide), h17.ne (by decide), h18.ne (by decide), h19.ne (by decide), h20.ne (by decide), .same, h22.ne (by decide)⟩)
              · exact op_build 32 _ rfl [(0, .int .i64 c2.kind), (1, .int .i64 c2.at'), (2, .slice co2 c2.b.length cc2), (3, .int .u64 (c2.keep : Int))] _ (by
                  have e1 := (h6 (hr { on := 6, ground := .data } (by simp) rfl)); have e2 := (h11 (hr { on := 11, ground := .data } (by simp) rfl)); have e3 := (h16 (hr { on := 16, ground := .data } (by simp) rfl)); have e4 := (h21 (hr { on := 21, ground := .data } (by simp) rfl))
                  simp only [List.map_toArray, List.map_cons, List.map_nil]
                  rw [show ∀ (a b c d a2 b2 c2 d2 : Nat × Value), a = a2 → b = b2 → c = c2 → d = d2 → [a, b, c, d].toArray = [a2, b2, c2, d2].toArray from fun _ _ _ _ _ _ _ _ h1 h2 h3 h4 => by rw [h1, h2, h3, h4]]
                  · exact congrArg (Prod.mk 0) e1
                  · exact congrArg (Prod.mk 1) e2
                  · exact congrArg (Prod.mk 2) e3
                  · exact congrArg (Prod.mk 3) e4) HBD.out (hK _ _ ⟨hM.ne (by decide), h0.ne (by decide), h2.ne (by decide), h3.ne (by decide), h4.ne (by decide), h5.ne (by decide), h6.ne (by decide), h7.ne (by decide), h8.ne (by decide), h9.ne (by decide), h10.ne (by decide), h11.ne (by decide), h12.ne (by decide), h13.ne (by decide), h14.ne (by decide), h15.ne (by decide), h16.ne (by decide), h17.ne (by decide), h18.ne (by decide), h19.ne (by decide), h20.ne (by decide), h21.ne (by decide), .same⟩)
            rintro q V2 w8 hall ⟨hM, h0, h2, h3, h4, h5, h6, h7, h8, h9, h10, h11, h12, h13, h14, h15, h16, h17, h18, h19, h20, h21, h22⟩
            have v0 := h0 (hall 0 (by decide))
            have v2 := h2 (hall 2 (by decide))
            have v3 := h3 (hall 3 (by decide))
            have v4 := h4 (hall 4 (by decide))
            have v5 := h5 (hall 5 (by decide))
            have v6 := h6 (hall 6 (by decide))
            have v7 := h7 (hall 7 (by decide))
            have v8 := h8 (hall 8 (by decide))
            have v9 := h9 (hall 9 (by decide))
            have v10 := h10 (hall 10 (by decide))
            have v11 := h11 (hall 11 (by decide))
            have v12 := h12 (hall 12 (by decide))
            have v13 := h13 (hall 13 (by decide))
            have v14 := h14 (hall 14 (by decide))
            have v15 := h15 (hall 15 (by decide))
            have v16 := h16 (hall 16 (by decide))
            have v17 := h17 (hall 17 (by decide))
            have v18 := h18 (hall 18 (by decide))
            have v19 := h19 (hall 19 (by decide))
            have v20 := h20 (hall 20 (by decide))
            have v21 := h21 (hall 21 (by decide))
            have v22 := h22 (hall 22 (by decide))
            obtain ⟨g0, v1x, v2x, v3x, v1, hr0, hm0⟩ := hM.2 (hall 1 (by decide))
            have hb8 := hM.1
            simp only [List.take_succ_cons, List.take_zero, List.drop_succ_cons, List.drop_zero, putAll, Nat.zero_add, Nat.reduceAdd, v1, v0, v2, v3, v4, v5, v6, v7, v8, v9, v10, v11, v12, v13, v14, v15, v16, v17, v18, v19, v20, v21, v22, Act.put, List.setIfInBounds_toArray, List.set_cons_zero, List.set_cons_succ]
            clear h0 h2 h3 h4 h5 h6 h7 h8 h9 h10 h11 h12 h13 h14 h15 h16 h17 h18 h19 h20 h21 h22 v0 v2 v3 v4 v5 v6 v7 v8 v9 v10 v11 v12 v13 v14 v15 v16 v17 v18 v19 v20 v21 v22 v1 hM hall
            -- END REGION
            have HDD8 := Lib.hid (show Duo Oq (refO g0 v1x v2x v3x) (.pointer (some aq)) (.pointer (some ⟨g0, 0, none⟩)) sq (newS 0) w8 from ⟨hq.only (Only.of (O := fun _ => False) hb8) (fun _ _ => id), ⟨g0, v1x, v2x, v3x, rfl, rfl, hr0⟩, fun b hb e => by
              have h1 := hq.lt b hb
              have h2 := hm0 b e
              omega⟩)
            have HO8 := Lib.hid (does_other Oq (refO g0 v1x v2x v3x) _ _ sq (newS 0) c2 co2 cc2 100 w8 HDD8.out (HFQ.out.mono (by have := HL100.out; omega)) ((fit_new 0).mono (by omega)) rfl (by omega) ((HX2.out.nums.below hbw).below hb8) (fun hne a ha e => by
              have h1 := HX2.out.block hne a ha
              rcases e with e | e
              · have := hOO _ (.inr e); omega
              · have := hm0 _ e; omega) (by have := HXL2.out; omega) HX2.out.low HX2.out.high HX2.out.keep)
            have HST := Lib.hid (fun (w9 : World) (Oq' O0' : Nat → Prop) (sq' s0 : DS) (hd9 : Duo Oq' O0' (.pointer (some aq)) (.pointer (some ⟨g0, 0, none⟩)) sq' s0 w9) (ht9 : Turn (U Oq (refO g0 v1x v2x v3x)) (U Oq' O0') w8 w9) => TrioL.step3 (w0 := w) (B := w.heap.size) (hdd.below hb8) haq (fun b hb e => by
              have h1 := hdd.lt e
              have h2 := hm0 b hb
              omega) hOO (fun b hb => Nat.le_trans hBw (hm0 b hb)) (hbw.trans (hb8.mono hBw)) (Nat.le_trans hBw hb8.size) hd9 ht9)
            have HF9 := Lib.hid (HFQ.out.step c2 HX2.out.high HX2.out.keep)
            clear hdd hq haq hOO hbw hBw hr0 hm0 hb8 HDD8 HL6 HIX HF0 HF1 HF2 HF3 HBD HR0c HR1c HR2c HR3c HR2
            go_wp2_with fail
            refine HO8.out.mono ?_
            rintro e w9 ⟨⟨rb, rfl⟩, Oq', O0', hd9, ht9⟩
            have HL9 := Lib.hid (HST.out w9 Oq' O0' _ _ hd9 ht9)
            clear hd9 ht9 HO8 HST
            go_wp2_with fail
            exact ⟨⟨k + 1, by omega, by go_num, _, HF9.out, by rw [HS1.out]; exact HL9.out⟩, by simp [intOf]; omega⟩
          · have hmk2 : ¬ (k : Int) < (M.length : Int) := by omega
            go_wp2_with fail
            exact ⟨⟨k + 1, by omega, by go_num, sq, HFQ.out.mono (by omega), by rw [HS1.out]; exact HL6.out⟩, by simp [intOf]; omega⟩
        · obtain rfl : k = L.length := by omega
          have hnw : ¬ ((L.length : Nat) : Int) < ((L.length : Nat) : Int) := by omega
          obtain ⟨Od, Om, Oq, hdd, _, _, hOO, hbw, hBw⟩ := HTR.out
          have HFS := Lib.hid ((fit_stK N HOK.out (k := L.length) (by omega)).mono (show L.length ≤ 100 by have := HL100.out; omega))
          have HSN := Shut.mk (show (stK N L L.length).safe.length = N by rw [stK_len N L _ (by omega), HSZ.out])
          have HSM := Lib.hid (same7_any Od Om _ _ (stK N L L.length) 100 wr hdd HFS.out (by omega))
          have HL0 := Lib.hid (show Lone w.heap.size w (.pointer (some ad)) (stK N L L.length) wr from ⟨Od, hdd.d, fun b hb => hOO b (.inl (.inl hb)), hbw, hBw⟩)
          clear hdd hOO hbw hBw HTR HFQ HOK HMOK HM H HLB HMB
          obtain ⟨S, hS⟩ : ∃ S, stK N L L.length = S := ⟨_, rfl⟩
          rw [hS] at HFS HSN HL0
          clear hS
          have HST := Lib.hid (sync_tells S)
          obtain ⟨p1, p2, p3⟩ := sync_rest S
          rw [HSN.out] at p3
          have HF1 := Lib.hid (HFS.out.on.mono (show 100 ≤ 999999 by omega))
          have HF2 := Lib.hid (HFS.out.on.sync.mono (show 100 + 1 ≤ 999999 by omega))
          have HF3 := Lib.hid (HFS.out.on.sync.on.mono (show 100 + 1 ≤ 999999 by omega))
          obtain ⟨S1, hS1⟩ : ∃ S1, onS S = S1 := ⟨_, rfl⟩
          have HE1 := Shut.mk hS1
          rw [hS1] at HST p1 p2 p3 HF1 HF2 HF3
          obtain ⟨S2, hS2⟩ : ∃ S2, syncS S1 = S2 := ⟨_, rfl⟩
          have HE2 := Shut.mk hS2
          rw [hS2] at HST p1 p2 p3 HF2 HF3
          obtain ⟨S3, hS3⟩ : ∃ S3, onS S2 = S3 := ⟨_, rfl⟩
          have HE3 := Shut.mk hS3
          rw [hS3] at p1 p2 p3 HF3
          have HP1 := Shut.mk p1
          have HP2 := Shut.mk p2
          have HP3 := Shut.mk p3
          have HFS1 := Lib.hid (HFS.out.mono (show 100 ≤ 999999 by omega))
          obtain ⟨ES, hES⟩ : ∃ ES, syncE S1 = ES := ⟨_, rfl⟩
          rw [hES] at HST
          have HES := Shut.mk hES
          clear hS1 hS2 hS3 p1 p2 p3 hES
          go_wp2_with fail
          refine HSM.out.mono ?_
          rintro e y1 ⟨rfl, hb⟩
          have HL1 := Lib.hid (HL0.out.below hb)
          clear hb HSM HL0
          go_wp2_with fail
          obtain ⟨O, hd, hO, hb, hB⟩ := HL1.out
          refine (dev7_on O _ S y1 hd HFS1.out).mono ?_
          rintro e y2 ⟨rfl, O', hd', ht'⟩
          rw [HE1.out] at hd'
          have HL2 := Lib.hid (Lone.step hO hb hB hd' ht')
          clear hd hO hb hB hd' ht' HL1
          go_wp2_with fail
          obtain ⟨O, hd, hO, hb, hB⟩ := HL2.out
          refine (dev7_sync O _ S1 y2 hd HF1.out).mono ?_
          rintro e y3 ⟨rfl, O', hd', ht'⟩
          rw [HE2.out] at hd'
          rw [HES.out]
          have HL3 := Lib.hid (Lone.step hO hb hB hd' ht')
          clear hd hO hb hB hd' ht' HL2
          by_cases hz : ES = 0
          case' pos =>
            subst hz
            have HLY := HL3
            clear HL3 HST
            go_wp2_with fail
          case' neg =>
            have hoff := HST.out.resolve_left hz
            have e0 : (((ES : Nat) : Int) == 0) = false := by simp; omega
            go_wp2_with fail
            obtain ⟨O, hd, hO, hb, hB⟩ := HL3.out
            refine (dev7_down O _ S2 y3 hd HF2.out).mono ?_
            rintro e y4 ⟨rfl, hb4⟩
            rw [hoff]
            have HLY := Lib.hid (HL3.out.below hb4)
            clear hd hO hb hB hb4 HL3 hoff HST hz
            go_wp2_with fail
            clear e0
          all_goals
            -- TAIL
            obtain ⟨O, hd, hO, hb, hB⟩ := HLY.out
            refine (dev7_on O _ S2 _ hd HF2.out).mono ?_
            rintro e y5 ⟨rfl, O', hd', ht'⟩
            rw [HE3.out] at hd'
            have HL5 := Lib.hid (Lone.step hO hb hB hd' ht')
            clear hd hO hb hB hd' ht' HLY
            go_wp2_with fail
            go_loopw [14, 15] (fun v i wq => ∃ k : Nat, k ≤ N ∧ i = .int .i64 k ∧ WasL w.heap.size w (.pointer (some ad)) S3 (S3.safe.take k) v wq) (fun _ i _ => N - (intOf i).toNat)
            case atStart => exact ⟨0, by omega, rfl, HL5.out.was⟩
            case round =>
              clear HL5
              obtain ⟨k, hkN, rfl, hwl⟩ := hrel
              have HWL := Lib.hid hwl
              clear hwl
              by_cases hlk : k < N
              · have hlk2 : (k : Int) < (N : Int) := by omega
                obtain ⟨O, hd, hO, hb, hB, hrow, hown⟩ := HWL.out
                have hkS : k < S3.safe.length := by rw [HP3.out]; exact hlk
                obtain ⟨q1, q2⟩ := read_rest HP1.out HP2.out hkS
                have HRD := Lib.hid (dev7_read O _ S3 k wr hd HF3.out)
                rw [q1, q2] at HRD
                have HTS := Shut.mk (take_snoc S3.safe hkS)
                have HSL := Lib.hid (show (strs (S3.safe.take k)).length ≤ 1000000 by rw [strs_length, List.length_take]; have := HN20.out; omega)
                obtain ⟨T, hT⟩ : ∃ T, S3.safe.take k = T := ⟨_, rfl⟩
                obtain ⟨t, ht⟩ : ∃ t, S3.safe.getD k [] = t := ⟨_, rfl⟩
                rw [hT] at hrow HSL
                rw [ht] at HRD
                rw [hT, ht] at HTS
                have HD := Lib.hid hd
                have HO := Lib.hid hO
                have HB := Lib.hid hb
                have HBB := Lib.hid hB
                have HR := Lib.hid hrow
                have HOW := Lib.hid hown
                clear hd hO hb hB hrow hown q1 q2 hkS hT ht HWL
                go_wp2_with fail
                refine HRD.out.mono ?_
                rintro e z1 ⟨⟨xo, xc, rfl, hnb⟩, hb1⟩
                have HB1 := Lib.hid hb1
                have hcv := conv_in (P := Try.prog) Try.underlying29 Try.underlying5 Try.underlying9 (c := xc) hnb.nums
                have HRA := Lib.hid ((HR.out.below hb1).below (show Below z1.heap.size z1 (z1.alloc (.cells #[.string ⟨t.toArray⟩] 9)) from (Below.refl _ _).alloc (Nat.le_refl _) _))
                have HNW := Lib.hid (show (z1.alloc (.cells #[.string ⟨t.toArray⟩] 9)).cell? ((⟨z1.heap.size, 0, none⟩ : Addr).add 0) = some (.string ⟨t.toArray⟩) by
                  rw [Addr.add_mid, Lib.cell_of_heap (heap_alloc_new z1 _)]; rfl)
                have HBA := Lib.hid (show Below wr.heap.size wr (z1.alloc (.cells #[.string ⟨t.toArray⟩] 9)) from hb1.alloc hb1.size _)
                clear hnb hb1 HRD HR
                go_wp2_with (refine wpList_push_val rfl (.tmp 111) (.tmp 114) 45 9 rfl (.string ⟨#[]⟩) 16 rfl (by decide) Try.underlying45 Try.infoString u14 (strs T) (.string ⟨t.toArray⟩) rfl ⟨z1.heap.size, 0, none⟩ 1 rfl HRA.out rfl HNW.out HSL.out ?_)
                intro v' w' hr5 hg5 hv5
                have HW5 := Lib.hid (WasL.push HD.out HO.out HB.out HBB.out HOW.out HBA.out hr5.out hg5.out (by simpa using hv5.out))
                rw [HTS.out] at HW5
                clear hr5 hg5 hv5 HRA HNW HBA HD HO HB HBB HOW hcv
                go_wp2_with fail
                exact ⟨⟨k + 1, by omega, by go_num, HW5.out⟩, by simp [intOf]; omega⟩
              · obtain rfl : k = N := by omega
                have hnw : ¬ (k : Int) < (k : Int) := by omega
                have hwf := HWL.out
                rw [List.take_of_length_le (by rw [HP3.out]; omega)] at hwf
                have HWF := Lib.hid hwf
                clear hwf HWL
                obtain ⟨g1, g2, g3⟩ := gone_rest HP1.out HP2.out kp
                have HF4 := Lib.hid (HF3.out.gone kp)
                have HF5 := Lib.hid (HF3.out.gone kp).on
                obtain ⟨SG, hSG⟩ : ∃ SG, goneS S3 kp = SG := ⟨_, rfl⟩
                have HEG := Shut.mk hSG
                rw [hSG] at g1 g2 g3 HF4 HF5
                obtain ⟨S4, hS4⟩ : ∃ S4, onS SG = S4 := ⟨_, rfl⟩
                have HE4 := Shut.mk hS4
                rw [hS4] at g1 g2 g3 HF5
                have HG1 := Shut.mk g1
                have HG2 := Shut.mk g2
                have HG3 := Shut.mk g3
                clear hSG hS4 g1 g2 g3
                go_wp2_with fail
                obtain ⟨O, hd, hO, hb, hB, hrow, hown⟩ := HWF.out
                refine (dev7_off O _ S3 kp wr hd HF3.out HKP.out).mono ?_
                rintro e z1 ⟨rfl, O', hd', ht'⟩
                rw [HEG.out] at hd'
                have HW1 := Lib.hid (WasL.step hO hb hB hrow hown hd' ht')
                clear hd hO hb hB hrow hown hd' ht' HWF
                go_wp2_with fail
                obtain ⟨O, hd, hO, hb, hB, hrow, hown⟩ := HW1.out
                refine (dev7_on O _ SG z1 hd HF4.out).mono ?_
                rintro e z2 ⟨rfl, O', hd', ht'⟩
                rw [HE4.out] at hd'
                have HW2 := Lib.hid (WasL.step hO hb hB hrow hown hd' ht')
                clear hd hO hb hB hrow hown hd' ht' HW1
                go_wp2_with fail
                go_loopw [18] (fun i wq => ∃ j : Nat, j ≤ k ∧ i = .int .i64 j ∧ WasL w.heap.size w (.pointer (some ad)) S4 S3.safe u14 wq) (fun i _ => k - (intOf i).toNat)
                case atStart => exact ⟨0, by omega, rfl, HW2.out⟩
                case round =>
                  clear HW2
                  obtain ⟨j, hjN, rfl, hwl⟩ := hrel
                  have HWL := Lib.hid hwl
                  clear hwl
                  by_cases hlj : j < k
                  · have hlj2 : (j : Int) < (k : Int) := by omega
                    obtain ⟨O, hd, hO, hb, hB, hrow, hown⟩ := HWL.out
                    have hjS : j < S3.safe.length := by rw [HP3.out]; exact hlj
                    obtain ⟨q1, q2⟩ := read_rest HG1.out HG2.out (i := j) (by rw [HG3.out]; exact hjS)
                    rw [HG3.out] at q2
                    have HRD := Lib.hid (dev7_read O _ S4 j wr hd HF5.out)
                    rw [q1, q2] at HRD
                    obtain ⟨gw, vc, hv⟩ := hrow.formB (by rw [strs_length]; omega)
                    rw [strs_length, HP3.out] at hv
                    subst hv
                    have hcl := hrow.get (by rw [strs_length, HP3.out]) (strs_get hjS)
                    obtain ⟨t, ht⟩ : ∃ t, S3.safe.getD j [] = t := ⟨_, rfl⟩
                    rw [ht] at HRD hcl
                    have HC := Lib.hid hcl
                    clear hd hO hb hB hrow hown q1 q2 hjS ht hcl
                    go_wp2_with fail
                    refine HRD.out.mono ?_
                    rintro e z3 ⟨⟨xo, xc, rfl, hnb⟩, hb1⟩
                    have HW3 := Lib.hid (HWL.out.below hb1)
                    have HNU := Lib.hid hnb.nums
                    have HCL := Lib.hid (fun (w' : World) (h : Below z3.heap.size z3 w') => show w'.cell? ⟨gw, j, none⟩ = some (.string ⟨t.toArray⟩) from (h.cell (p := ⟨gw, j, none⟩) (Nat.lt_of_lt_of_le (block_lt_of_cell HC.out) hb1.size)).trans ((hb1.cell (p := ⟨gw, j, none⟩) (block_lt_of_cell HC.out)).trans HC.out))
                    have HCV := Lib.hid (fun (w' : World) (h : Below z3.heap.size z3 w') => conv_in (P := Try.prog) Try.underlying29 Try.underlying5 Try.underlying9 (c := xc) (HNU.out.below h))
                    clear hnb hb1 HRD HC HWL
                    go_upto_region 33 with (fail)
                    refine wp_region_class (fun w' => Below z3.heap.size z3 w') (by kernel_rfl) (by kernel_rfl) (Below.refl _ _).drew ?_
                    repeat (first
                      | go_big_quiet_skip
                      | (go_big_quiet_want; refine quiet_conv 29 9 (.tmp 135) rfl _ _ rfl HCV.out ?_; go_big_quiet_on; simp only [Act.put, List.setIfInBounds_toArray, List.set_cons_zero, List.set_cons_succ])
                      | (go_big_quiet_want; refine quiet_load_cell 9 _ rfl ⟨gw, j, none⟩ _ rfl HCL.out Try.isAgg9 ?_; go_big_quiet_on; simp only [Act.put, List.setIfInBounds_toArray, List.set_cons_zero, List.set_cons_succ])
                      | go_big_quiet_step ((intro hs'; rfl)))
                    refine wpQuiet_nil ?_
                    intro z4 hs4
                    have HW4 := Lib.hid (HW3.out.below hs4)
                    clear hs4 HW3 HNU HCL HCV
                    go_wp2_with fail
                    exact ⟨⟨j + 1, by omega, by go_num, HW4.out⟩, by simp [intOf]; omega⟩
                  · obtain rfl : j = k := by omega
                    have hnj : ¬ (j : Int) < (j : Int) := by omega
                    obtain ⟨_, _, _, hb, _, _, _⟩ := HWL.out
                    have HB := Lib.hid hb
                    clear hb HWL
                    go_wp2_with fail
                    go_ret
                    exact ⟨rfl, HB.out⟩
end diskApart
end Go.Proofs.Ytmkelboncapkpaa
