/-
  The law DiskDoes: its walk.
-/
import Derived.Test.YtmkelboncapkpaaAlive7
namespace Go.Proofs.Ytmkelboncapkpaa
open Go.RowKit Go.BigFrame

/-- Two disks that the call made, in the same state. -/
def DuoL (B : Nat) (w0 : World) (vd vm : Value) (s : DS) (w : World) : Prop := ∃ Od Om, Duo Od Om vd vm s s w ∧ (∀ b, U Od Om b → B ≤ b) ∧ Below B w0 w ∧ B ≤ w.heap.size
theorem DuoL.below {B : Nat} {w0 : World} {vd vm : Value} {s : DS} {w w' : World} (h : DuoL B w0 vd vm s w) (k : Below w.heap.size w w') : DuoL B w0 vd vm s w' := by
  obtain ⟨Od, Om, hd, hO, hb, hB⟩ := h
  exact ⟨Od, Om, hd.below k, hO, hb.trans (k.mono hB), Nat.le_trans hB k.size⟩
theorem DuoL.step {B : Nat} {w0 : World} {vd vm : Value} {s' : DS} {w w' : World} {Od Om Od' Om' : Nat → Prop} (hO : ∀ b, U Od Om b → B ≤ b) (hb : Below B w0 w) (hB : B ≤ w.heap.size) (hd : Duo Od' Om' vd vm s' s' w') (ht : Turn (U Od Om) (U Od' Om') w w') : DuoL B w0 vd vm s' w' :=
  ⟨Od', Om', hd, fun b h => (ht.own b h).elim (hO b) (Nat.le_trans hB), Only.toBelow hb ht.only hO hB, Nat.le_trans hB ht.only.size⟩
/-- The state behind the first k calls. -/
def stK (n : Int) (L : List CallAt) (k : Nat) : DS := (L.take k).foldl (fun s x => stepS s x.c) (newS n)
theorem stK_zero (n : Int) (L : List CallAt) : stK n L 0 = newS n := by simp [stK]
theorem stK_next (n : Int) {L : List CallAt} {k : Nat} (h : k < L.length) : stK n L (k + 1) = stepS (stK n L k) (L[k]).c := by
  rw [stK, stK, List.take_succ_eq_append_getElem h, List.foldl_append]
  rfl
theorem fit_stK (n : Int) {L : List CallAt} {w : World} (hok : ∀ x ∈ L, x.Ok w) : ∀ {k : Nat}, k ≤ L.length → Fit (stK n L k) k
  | 0, _ => by rw [stK_zero]; exact fit_new n
  | k + 1, h => by
    rw [stK_next n (by omega)]
    have hx := hok _ (List.getElem_mem (show k < L.length by omega))
    exact (fit_stK n hok (by omega)).step _ hx.high hx.keep
theorem great_not {L : List CallAt} (h : greatN L = false) : L.length ≤ 100 ∧ ∀ x ∈ L, x.c.b.length ≤ 4096 := by
  simp only [greatN, Bool.or_eq_false_iff, decide_eq_false_iff_not] at h
  exact ⟨by omega, fun x hx => by have := sumB_mem hx; omega⟩

namespace diskDoes
set_option maxHeartbeats 4000000 in
set_option maxRecDepth 100000 in
theorem walk (w : World) (n : Int) (_hn : (Lit.int .i64 n).wf = true) (ao : Option Addr) (L : List CallAt) (cap : Nat) (h : ScriptAt ao L w) (hok : ∀ x ∈ L, x.Ok w) (hl : L.length ≤ 140737488351232) :
    Calls Try.prog 3 #[.int .i64 n, .slice ao L.length cap] w fun e w' => e = .returned (.bool true) ∧ Below w.heap.size w w' := by
  have H := Lib.hid h
  have HOK := Lib.hid hok
  have HGR := Lib.hid (fun (w' : World) (hb : Below w.heap.size w w') => great7_any ao L cap w' (by
      rcases h with h | ⟨b, o, h1, h2, h3⟩
      · exact .inl h
      · exact .inr ⟨b, o, h1, Nat.lt_of_lt_of_le h2 hb.size, fun i hi => range_below (h3 i hi) hb h2⟩) (fun x hx => ⟨(hok x hx).nums.below hb, fun hne a ha => Nat.lt_of_lt_of_le ((hok x hx).block hne a ha) hb.size, (hok x hx).low, (hok x hx).high, (hok x hx).keep, (hok x hx).long⟩) hl)
  obtain ⟨G, hG⟩ : ∃ G, greatN L = G := ⟨_, rfl⟩
  rw [hG] at HGR
  have HG := Shut.mk hG
  clear h hok hG
  go_enter Try.func3, Try.ntmps3
  go_wp2_with fail
  refine (alive7_any w).mono ?_
  rintro e w1 ⟨rfl, hb1⟩
  have HB1 := Lib.hid hb1
  clear hb1
  by_cases hn : 40 < n
  · go_wp2_with fail
    go_ret
    exact ⟨rfl, HB1.out⟩
  · go_wp2_with fail
    refine (HGR.out w1 HB1.out).mono ?_
    rintro e w2 ⟨rfl, hb2⟩
    have HB2 := Lib.hid (HB1.out.trans (hb2.mono HB1.out.size))
    clear hb2 HB1 HGR
    cases G with
    | true =>
      go_wp2_with fail
      go_ret
      exact ⟨rfl, HB2.out⟩
    | false =>
      obtain ⟨g1, g2⟩ := great_not HG.out
      have HLB := Lib.hid g2
      clear g2
      go_wp2_with fail
      refine (dev7_new n w2).mono ?_
      rintro e w3 ⟨⟨vd, Od, rfl, hd, hO⟩, hb3⟩
      obtain ⟨ad, rfl⟩ := hd.ptr
      have HD := Lib.hid hd
      have HO := Lib.hid hO
      have HB3 := Lib.hid (HB2.out.trans (hb3.mono HB2.out.size))
      have HW3 := Lib.hid (Nat.le_trans HB2.out.size hb3.size)
      have HW2 := Lib.hid HB2.out.size
      clear hd hO hb3 HB2
      go_wp2_with fail
      refine (ref_new n w3).mono ?_
      rintro e w4 ⟨⟨g, vS, vA, vD, rfl, hr, hm⟩, hb4⟩
      have HDU := Lib.hid (show DuoL w.heap.size w (.pointer (some ad)) (.pointer (some ⟨g, 0, none⟩)) (stK n L 0) w4 by
        rw [stK_zero]
        exact ⟨Od, refO g vS vA vD, ⟨HD.out.only (Only.of (O := fun _ => False) hb4) (fun _ _ => id), ⟨g, vS, vA, vD, rfl, rfl, hr⟩, fun b hb e => by
          have h1 := HD.out.lt b hb
          have h2 := hm b e
          omega⟩, fun b hb => hb.elim (fun h1 => Nat.le_trans HW2.out (HO.out b h1)) (fun h1 => Nat.le_trans HW3.out (hm b h1)), HB3.out.trans (hb4.mono HW3.out), Nat.le_trans HW3.out hb4.size⟩)
      clear hr hm hb4 HD HO HB3 HW2
      go_wp2_with fail
      go_loopw [26] (fun i wq => ∃ k : Nat, k ≤ L.length ∧ i = .int .i64 k ∧ DuoL w.heap.size w (.pointer (some ad)) (.pointer (some ⟨g, 0, none⟩)) (stK n L k) wq) (fun i _ => L.length - (intOf i).toNat)
      case atStart => exact ⟨0, by omega, rfl, HDU.out⟩
      case round =>
        clear HDU
        obtain ⟨k, hk, rfl, hdu⟩ := hrel
        have HDU := Lib.hid hdu
        clear hdu
        by_cases hlk : k < L.length
        · have hlk2 : (k : Int) < (L.length : Int) := by omega
          obtain ⟨b, o, rfl, hbb, hr⟩ := H.out.some hlk
          obtain ⟨Od, Om, hdd, hOO, hbw, hBw⟩ := HDU.out
          have HR := Lib.hid (range_below hr hbw hbb)
          have hx := HOK.out _ (List.getElem_mem hlk)
          have HX := Lib.hid hx
          have HXL := Lib.hid (HLB.out _ (List.getElem_mem hlk))
          have HNX := Shut.mk (stK_next n hlk)
          have HFT := Lib.hid ((fit_stK n HOK.out (k := k) (by omega)).mono (show k ≤ 100 by omega))
          have HFT2 := Lib.hid ((fit_stK n HOK.out (k := k + 1) (by omega)).mono (show k + 1 ≤ 101 by omega))
          obtain ⟨x, hxe⟩ : ∃ x, L[k] = x := ⟨_, rfl⟩
          rw [hxe] at HR HX HXL HNX
          rw [HNX.out] at HFT2
          obtain ⟨c, bo, bc⟩ := x
          simp only at HX HXL HNX HFT2 HR
          have HV1 := Lib.hid (callV_one c bo bc)
          have HI4 := Lib.hid (show (Try.prog.info? 32).map (·.size) = some (callV c bo bc).toList.length from Try.infoCall7)
          have HI5 := Lib.hid (show (Try.prog.info? 32).map (·.size) = some (callV c bo bc).size from Try.infoCall7)
          have HZN := Lib.hid (show Cells wr.heap.size 32 (callV ⟨0, 0, [], 0⟩ none 0) (wr.alloc (.cells (callV ⟨0, 0, [], 0⟩ none 0) 32)) from heap_alloc_new wr _)
          have HZS := Lib.hid (show (callV ⟨0, 0, [], 0⟩ none 0).size = (callV c bo bc).size from rfl)
          have HDO := Lib.hid (fun (w' : World) (hb : Below wr.heap.size wr w') => does_any Od Om _ _ (stK n L k) c bo bc 100 w' (hdd.below hb) HFT.out (by omega) ((HX.out.nums.below hbw).below (hb.mono (Nat.le_refl _))) (fun hne a ha e => by
            have h1 := HX.out.block hne a ha
            have h2 := hOO _ e
            omega) (by have := HXL.out; omega) HX.out.low HX.out.high HX.out.keep)
          rw [← HNX.out] at HDO HFT2
          obtain ⟨S1, hS1⟩ : ∃ S1, stK n L (k + 1) = S1 := ⟨_, rfl⟩
          rw [hS1] at HDO HFT2
          have HS1 := Shut.mk hS1
          have HOO := Lib.hid hOO
          have HBW := Lib.hid hbw
          have HBB := Lib.hid hBw
          obtain ⟨V, hV⟩ : ∃ V, callV c bo bc = V := ⟨_, rfl⟩
          rw [hV] at HR HV1 HI4 HI5 HZS HDO
          clear hr hbb hx hxe hV hS1 hdd hOO hbw hBw HDU
          go_wp2_with (first
            | (refine wpList_load_mid rfl 32 _ rfl b (o + k * 4) rfl V.toList _ HR.out Try.underlying32 rfl HI4.out ?_)
            | (refine wpList_store_cells rfl 32 _ _ rfl rfl wr.heap.size _ V 32 rfl rfl HZN.out HI5.out HZS.out HV1.out ?_))
          intro w5 hc5 hb5
          have hb55 : Below wr.heap.size wr w5 := But.toBelow ((Below.refl _ _).alloc (Nat.le_refl _) (.cells (callV ⟨0, 0, [], 0⟩ none 0) 32)) hb5.out (Nat.le_refl _) (by simp)
          have HC5 := Lib.hid hc5.out
          have HB5 := Lib.hid (HBW.out.trans (hb55.mono HBB.out))
          have HBZ := Lib.hid (Nat.le_trans HBB.out hb55.size)
          have HD5 := Lib.hid (HDO.out w5 hb55)
          clear hc5 hb5 hb55 HR HZN HDO HBW HBB
          go_wp2_with (refine wpList_load_cells rfl 32 _ rfl wr.heap.size V 32 _ rfl HC5.out Try.underlying32 rfl HI5.out ?_)
          refine HD5.out.mono ?_
          rintro e w6 ⟨rfl, Od', Om', hd6, ht6⟩
          have HL6 := Lib.hid (DuoL.step HOO.out HB5.out HBZ.out hd6 ht6)
          have HD6 := Lib.hid (same7_any Od' Om' _ _ S1 101 w6 hd6 HFT2.out (by omega))
          clear hd6 ht6 HC5 HB5 HBZ HD5 HOO
          go_wp2_with fail
          refine HD6.out.mono ?_
          rintro e w7 ⟨rfl, hb7⟩
          have HL7 := Lib.hid (HL6.out.below hb7)
          clear hb7 HL6 HD6
          go_wp2_with fail
          exact ⟨⟨k + 1, by omega, by go_num, by rw [HS1.out]; exact HL7.out⟩, by simp [intOf]; omega⟩
        · obtain rfl : k = L.length := by omega
          have hnw : ¬ ((L.length : Nat) : Int) < ((L.length : Nat) : Int) := by omega
          obtain ⟨_, _, _, _, hbw, hBw⟩ := HDU.out
          have HBW := Lib.hid hbw
          have HBB := Lib.hid hBw
          clear hbw hBw HDU
          go_wp2_with fail
          refine (dev7_off_nil 1 wr).mono ?_
          rintro e y0 ⟨rfl, hb⟩
          have HY0 := Lib.hid (HBW.out.trans (hb.mono HBB.out))
          have HZ0 := Lib.hid (Nat.le_trans HBB.out hb.size)
          clear hb HBW HBB
          go_wp2_with fail
          refine (dev7_on_nil y0).mono ?_
          rintro e y1 ⟨rfl, hb⟩
          have HY1 := Lib.hid (HY0.out.trans (hb.mono HZ0.out))
          have HZ1 := Lib.hid (Nat.le_trans HZ0.out hb.size)
          clear hb HY0 HZ0
          go_wp2_with fail
          refine (dev7_arm_nil 1 1 y1).mono ?_
          rintro e y2 ⟨rfl, hb⟩
          have HY2 := Lib.hid (HY1.out.trans (hb.mono HZ1.out))
          have HZ2 := Lib.hid (Nat.le_trans HZ1.out hb.size)
          clear hb HY1 HZ1
          go_wp2_with fail
          refine (dev7_read_nil 0 y2).mono ?_
          rintro e y3 ⟨⟨rao, rco, rfl⟩, hb⟩
          have HY3 := Lib.hid (HY2.out.trans (hb.mono HZ2.out))
          have HZ3 := Lib.hid (Nat.le_trans HZ2.out hb.size)
          clear hb HY2 HZ2
          go_wp2_with fail
          refine (dev7_write_nil 0 none 0 0 y3).mono ?_
          rintro e y4 ⟨rfl, hb⟩
          have HY4 := Lib.hid (HY3.out.trans (hb.mono HZ3.out))
          have HZ4 := Lib.hid (Nat.le_trans HZ3.out hb.size)
          clear hb HY3 HZ3
          go_wp2_with fail
          refine (dev7_sync_nil y4).mono ?_
          rintro e y5 ⟨rfl, hb⟩
          have HY5 := Lib.hid (HY4.out.trans (hb.mono HZ4.out))
          have HZ5 := Lib.hid (Nat.le_trans HZ4.out hb.size)
          clear hb HY4 HZ4
          go_wp2_with fail
          refine (dev7_down_nil y5).mono ?_
          rintro e y6 ⟨rfl, hb⟩
          have HY6 := Lib.hid (HY5.out.trans (hb.mono HZ5.out))
          have HZ6 := Lib.hid (Nat.le_trans HZ5.out hb.size)
          clear hb HY5 HZ5
          go_wp2_with fail
          refine (dev7_acts_nil y6).mono ?_
          rintro e y7 ⟨rfl, hb⟩
          have HY7 := Lib.hid (HY6.out.trans (hb.mono HZ6.out))
          have HZ7 := Lib.hid (Nat.le_trans HZ6.out hb.size)
          clear hb HY6 HZ6
          go_wp2_with fail
          refine (dev7_size_nil y7).mono ?_
          rintro e y8 ⟨rfl, hb⟩
          have HY8 := Lib.hid (HY7.out.trans (hb.mono HZ7.out))
          have HZ8 := Lib.hid (Nat.le_trans HZ7.out hb.size)
          clear hb HY7 HZ7
          go_wp2_with fail
          refine (dev7_waits_nil y8).mono ?_
          rintro e y9 ⟨rfl, hb⟩
          have HY9 := Lib.hid (HY8.out.trans (hb.mono HZ8.out))
          have HZ9 := Lib.hid (Nat.le_trans HZ8.out hb.size)
          clear hb HY8 HZ8
          go_wp2_with fail
          go_ret
          exact ⟨rfl, HY9.out⟩
end diskDoes
end Go.Proofs.Ytmkelboncapkpaa
