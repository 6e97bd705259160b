/-
  The law DiskKeeps: its walk.
-/
import Derived.Test.YtmkelboncapkpaaMay
import Derived.Test.YtmkelboncapkpaaKeepsM
import Derived.Test.YtmkelboncapkpaaDiskDoesWalk
import Derived.Test.YtmkelboncapkpaaWas
namespace Go.Proofs.Ytmkelboncapkpaa
open Go.RowKit Go.BigFrame

/-- The state behind the first k calls, writes and syncs alone. -/
def kpK (n : Int) (L : List CallAt) (k : Nat) : DS := (L.take k).foldl (fun s x => kindS s x.c) (newS n)
theorem kpK_zero (n : Int) (L : List CallAt) : kpK n L 0 = newS n := by simp [kpK]
theorem kpK_next (n : Int) {L : List CallAt} {k : Nat} (h : k < L.length) : kpK n L (k + 1) = kindS (kpK n L k) (L[k]).c := by
  rw [kpK, kpK, List.take_succ_eq_append_getElem h, List.foldl_append]
  rfl
theorem kpK_fit (n : Int) (L : List CallAt) : ∀ k, k ≤ L.length → Fit (kpK n L k) k
  | 0, _ => by rw [kpK_zero]; exact fit_new n
  | k + 1, h => by rw [kpK_next n (by omega)]; exact (kpK_fit n L k (by omega)).kind _
theorem kpK_live (n : Int) (L : List CallAt) : ∀ k, k ≤ L.length → Live (kpK n L k)
  | 0, _ => by rw [kpK_zero]; exact live_new n
  | k + 1, h => by rw [kpK_next n (by omega)]; exact live_kind (kpK_live n L k (by omega)) _
theorem kpK_len (n : Int) (L : List CallAt) : ∀ k, k ≤ L.length → (kpK n L k).safe.length = sizeN n
  | 0, _ => by rw [kpK_zero, newS, List.length_replicate]
  | k + 1, h => by rw [kpK_next n (by omega), kindS_len, kpK_len n L k (by omega)]

/-- .. and a block that is neither's. -/
def KeepX (B : Nat) (w0 : World) (vd : Value) (S : DS) (gm N : Nat) (F : Nat → List (List UInt8)) (gc : Nat) (w : World) : Prop :=
  ∃ O vals, DiskIs O vd S w ∧ (∀ b, O b → B ≤ b) ∧ Below B w0 w ∧ B ≤ w.heap.size ∧ MayIs gm N F vals w ∧ (∀ b, mayO gm vals b → B ≤ b ∧ ¬ O b) ∧ ¬ O gc ∧ ¬ mayO gm vals gc
theorem KeepX.keep {B : Nat} {w0 : World} {vd : Value} {S : DS} {gm N : Nat} {F : Nat → List (List UInt8)} {gc : Nat} {w : World} (h : KeepX B w0 vd S gm N F gc w) : KeepL B w0 vd S gm N F w := by
  obtain ⟨O, vals, hd, hO, hb, hB, hm, ho, _, _⟩ := h
  exact ⟨O, vals, hd, hO, hb, hB, hm, ho⟩
theorem KeepX.step {B : Nat} {w0 : World} {vd : Value} {S' : DS} {gm N : Nat} {F : Nat → List (List UInt8)} {vals : List Value} {w w' : World} {O O' : Nat → Prop} {gc : Nat} (hO : ∀ b, O b → B ≤ b) (hb : Below B w0 w) (hB : B ≤ w.heap.size) (hm : MayIs gm N F vals w) (ho : ∀ b, mayO gm vals b → B ≤ b ∧ ¬ O b) (h1 : ¬ O gc) (h2 : ¬ mayO gm vals gc) (hg : gc < w.heap.size) (hd : DiskIs O' vd S' w') (ht : Turn O O' w w') : KeepX B w0 vd S' gm N F gc w' :=
  ⟨O', vals, hd, fun b h => (ht.own b h).elim (hO b) (Nat.le_trans hB), Only.toBelow hb ht.only hO hB, Nat.le_trans hB ht.only.size, hm.only ht.only (fun b hb => (ho b hb).2), fun b hb => ⟨(ho b hb).1, fun e => by
    rcases ht.own b e with h | h
    · exact (ho b hb).2 h
    · have := hm.lt hb; omega⟩, ht.free h1 hg, h2⟩

namespace diskKeeps
set_option maxHeartbeats 4000000 in
set_option maxRecDepth 100000 in
theorem walk (w : World) (n : Int) (_hn : (Lit.int .i64 n).wf = true) (ao : Option Addr) (L : List CallAt) (cap : Nat) (h : ScriptAt ao L w) (hok : ∀ x ∈ L, x.Ok w) (hl : L.length ≤ 140737488351232) (keep : Int) (hkeep : (Lit.int .u64 keep).wf = true) :
    Calls Try.prog 4 #[.int .i64 n, .slice ao L.length cap, .int .u64 keep] w fun e w' => e = .returned (.bool true) ∧ Below w.heap.size w w' := by
  have hkk : (0 : Int) ≤ keep ∧ keep ≤ 18446744073709551615 := by
    simp only [Lit.wf, Bool.and_eq_true, decide_eq_true_eq] at hkeep
    exact ⟨hkeep.1, hkeep.2⟩
  obtain ⟨kp, rfl⟩ : ∃ kp : Nat, keep = kp := ⟨keep.toNat, by omega⟩
  have HKP := Lib.hid (show kp < 18446744073709551616 by omega)
  clear hkeep hkk
  obtain ⟨i0, hi0, hz0, hz1, hz2⟩ := info_parts Try.infoRow7
  have HIF := Lib.hid hi0
  have HZ0 := Lib.hid hz0
  have HZ1 := Lib.hid hz1
  have HZ2 := Lib.hid hz2
  clear hi0 hz0 hz1 hz2
  have H := Lib.hid h
  have HOK := Lib.hid hok
  have HGR := Lib.hid (fun (w' : World) (hb : Below w.heap.size w w') => great7_any ao L cap w' (by
      rcases h with h | ⟨b, o, h1, h2, h3⟩
      · exact .inl h
      · exact .inr ⟨b, o, h1, Nat.lt_of_lt_of_le h2 hb.size, fun i hi => range_below (h3 i hi) hb h2⟩) (fun x hx => ⟨(hok x hx).nums.below hb, fun hne a ha => Nat.lt_of_lt_of_le ((hok x hx).block hne a ha) hb.size, (hok x hx).low, (hok x hx).high, (hok x hx).keep, (hok x hx).long⟩) hl)
  obtain ⟨G, hG⟩ : ∃ G, greatN L = G := ⟨_, rfl⟩
  rw [hG] at HGR
  have HG := Shut.mk hG
  clear h hok hG
  go_enter Try.func4, Try.ntmps4
  go_wp2_with fail
  refine (alive7_any w).mono ?_
  rintro e w1 ⟨rfl, hb1⟩
  have HB1 := Lib.hid hb1
  clear hb1
  by_cases hn1 : 40 < n
  · go_wp2_with fail
    go_ret
    exact ⟨rfl, HB1.out⟩
  by_cases hn0 : n < 0
  · go_wp2_with fail
    go_ret
    exact ⟨rfl, HB1.out⟩
  obtain ⟨N, rfl⟩ : ∃ N : Nat, n = N := ⟨n.toNat, by omega⟩
  have hN40 : N ≤ 40 := by omega
  have HSZ := Shut.mk (show sizeN (N : Int) = N by rw [sizeN]; omega)
  have HN40 := Lib.hid hN40
  go_wp2_with fail
  refine (HGR.out w1 HB1.out).mono ?_
  rintro e w2 ⟨rfl, hb2⟩
  have HB2 := Lib.hid (HB1.out.trans (hb2.mono HB1.out.size))
  clear hb2 HB1 HGR
  cases G with
  | true =>
    go_wp2_with fail
    go_ret
    exact ⟨rfl, HB2.out⟩
  | false =>
    obtain ⟨g1, g2⟩ := great_not HG.out
    have HLB := Lib.hid g2
    have HL100 := Lib.hid g1
    clear g2 g1
    go_wp2_with fail
    refine (dev7_new N w2).mono ?_
    rintro e w3 ⟨⟨vd, Od, rfl, hd, hO⟩, hb3⟩
    obtain ⟨ad, rfl⟩ := hd.ptr
    have HD := Lib.hid hd
    have HO := Lib.hid hO
    have HB3 := Lib.hid (HB2.out.trans (hb3.mono HB2.out.size))
    have HW2 := Lib.hid HB2.out.size
    have HW3 := Lib.hid (Nat.le_trans HB2.out.size hb3.size)
    clear hd hO hb3 HB2
    go_wp2_with (at_make; refine wpList_make_full _ rfl _ _ 44 rfl 0 45 i0 (.slice none 0 0) 1 Try.underlying44 HIF.out HZ0.out HZ1.out .i64 .i64 _ _ N rfl rfl rfl rfl (by rw [HZ2.out]; omega) (by unfold maxLen; omega) (Nat.zero_le _) ?_)
    intro w4 hrow hgr
    have HK4 := Lib.hid (show KeepL w.heap.size w (.pointer (some ad)) (newS N) w3.heap.size N (fun _ => []) w4 by
      have hb4 : Only (fun _ => False) w3 w4 := (Only.refl _ _).grown hgr (fun b hb => by cases hb)
      refine ⟨Od, _, HD.out.only hb4 (fun _ _ => id), fun b hb => Nat.le_trans HW2.out (HO.out b hb), Only.toBelow HB3.out hb4 (fun b hb => hb.elim) HW3.out, Nat.le_trans HW3.out hb4.size, MayIs.made hrow, fun b hb => ?_⟩
      rcases hb with rfl | ⟨i, v, hv, hb⟩
      · exact ⟨HW3.out, fun e => by have := HD.out.lt _ e; omega⟩
      · have hm := List.mem_of_getElem? hv
        rw [(List.mem_replicate.1 hm).2] at hb
        cases hb)
    obtain ⟨gm, hgm⟩ : ∃ g, w3.heap.size = g := ⟨_, rfl⟩
    rw [hgm] at HK4 ⊢
    clear hrow hgr hgm HD HO HB3 HW2 HW3 HIF HZ0 HZ1 HZ2
    have HF0 := Lib.hid ((fit_new N).mono (show 0 ≤ 999999 by omega))
    have HSL := Shut.mk (show (newS N).safe.length = N by rw [newS, List.length_replicate, HSZ.out])
    have HNM := Lib.hid (fun (i : Nat) (hi : i < N) => new_may N i (by rw [HSL.out]; exact hi))
    go_wp2_with fail
    go_loopw [41] (fun i wq => ∃ k : Nat, k ≤ N ∧ i = .int .i64 k ∧ KeepL w.heap.size w (.pointer (some ad)) (newS N) gm N (fun j => if j < k then mayI (newS N) j else []) wq) (fun i _ => N - (intOf i).toNat)
    case atStart => exact ⟨0, by omega, rfl, HK4.out.congr fun i _ => by simp⟩
    case round =>
      clear HK4
      obtain ⟨k, hkN, rfl, hkl⟩ := hrel
      have HKL := Lib.hid hkl
      clear hkl
      by_cases hlk : k < N
      · have hlk2 : (k : Int) < (N : Int) := by omega
        obtain ⟨O, vals, hd, hO, hb, hB, hm, ho⟩ := HKL.out
        have HRD := Lib.hid (dev7_read O _ (newS N) k wr hd HF0.out)
        have HMK := Shut.mk (HNM.out k hlk)
        obtain ⟨t, ht⟩ : ∃ t, readB (newS N) k = t := ⟨_, rfl⟩
        obtain ⟨ew, hew⟩ : ∃ ew, whyS (newS N) k = ew := ⟨_, rfl⟩
        rw [ht] at HRD HMK
        rw [hew] at HRD
        obtain ⟨vk, hvk⟩ : ∃ vk, vals[k]? = some vk := ⟨_, List.getElem?_eq_getElem (by rw [hm.len]; exact hlk)⟩
        have HVK := Shut.mk hvk
        have HPUT := Lib.hid (fun (w1 : World) (v : Value) (T : List (List UInt8)) (h1 : Below wr.heap.size wr w1) (hv : TailV 9 v (strs T) w1) (hvo : ∃ g, v.ownBlock = some g ∧ wr.heap.size ≤ g) => KeepL.put hd hO hb hB hm ho hvk (Only.of h1) hv (.inr hvo))
        have HM := Lib.hid hm
        clear hd hO hb hB hm ho ht hew hvk HKL
        go_wp2_with fail
        refine HRD.out.mono ?_
        rintro e z1 ⟨⟨xo, xc, rfl, hnb⟩, hb1⟩
        have hcv := conv_in (P := Try.prog) Try.underlying29 Try.underlying5 Try.underlying9 (c := xc) hnb.nums
        have hbz : Below wr.heap.size wr (z1.alloc (.cells #[.string ⟨t.toArray⟩] 9)) := hb1.alloc hb1.size _
        have hmz := HM.out.only (Only.of (O := fun _ => False) hbz) (fun _ _ => id)
        have hcz := hmz.row.get hmz.len.symm HVK.out
        have hfz := hmz.row.frozen hmz.len.symm k
        have HBZ := Lib.hid hbz
        have HZ1 := Lib.hid hb1.size
        clear hnb hb1 HRD hbz hmz
        go_wp2_with fail
        refine ⟨⟨k + 1, by omega, by go_num, (HPUT.out _ _ [t] HBZ.out (TailV.lit z1 [.string ⟨t.toArray⟩]) ⟨z1.heap.size, rfl, HZ1.out⟩).congr fun i hi => ?_⟩, by simp [intOf]; omega⟩
        by_cases hik : i = k
        · subst hik
          rw [if_pos rfl, if_pos (by omega)]
          exact HMK.out.symm
        · rw [if_neg hik]
          by_cases hlt : i < k
          · rw [if_pos hlt, if_pos (by omega)]
          · rw [if_neg hlt, if_neg (by omega)]
      · obtain rfl : N = k := by omega
        have hnw : ¬ (N : Int) < (N : Int) := by omega
        have HK5 := Lib.hid (HKL.out.congr (F' := mayI (newS N)) fun i hi => by rw [if_pos hi])
        clear HKL HSL HNM HF0
        go_wp2_with fail
        go_loopw [59] (fun i wq => ∃ k : Nat, k ≤ L.length ∧ i = .int .i64 k ∧ KeepL w.heap.size w (.pointer (some ad)) (kpK N L k) gm N (mayI (kpK N L k)) wq) (fun i _ => L.length - (intOf i).toNat)
        case atStart => exact ⟨0, by omega, rfl, by rw [kpK_zero]; exact HK5.out⟩
        case round =>
          clear HK5
          obtain ⟨k, hk, rfl, hkl⟩ := hrel
          have HKL := Lib.hid hkl
          clear hkl
          by_cases hlk : k < L.length
          · have hlk2 : (k : Int) < (L.length : Int) := by omega
            obtain ⟨b, o, rfl, hbb, hr⟩ := H.out.some hlk
            have HF := Lib.hid ((kpK_fit N L k (by omega)).mono (show k ≤ 999999 by have := HL100.out; omega))
            have HF1 := Lib.hid ((kpK_fit N L (k + 1) (by omega)).mono (show k + 1 ≤ 999999 by have := HL100.out; omega))
            have HLV := Lib.hid (kpK_live N L k (by omega))
            have HSL := Shut.mk ((kpK_len N L k (by omega)).trans HSZ.out)
            have HNX := Shut.mk (kpK_next N hlk)
            obtain ⟨S, hS⟩ : ∃ S, kpK N L k = S := ⟨_, rfl⟩
            rw [hS] at HKL HF HLV HSL HNX
            obtain ⟨S1, hS1⟩ : ∃ S1, kpK N L (k + 1) = S1 := ⟨_, rfl⟩
            have HS1 := Shut.mk hS1
            rw [hS1] at HNX HF1
            obtain ⟨O, vals, hd, hO, hb, hB, hm, ho⟩ := HKL.out
            have HR := Lib.hid (range_below hr hb hbb)
            have HX := Lib.hid (HOK.out _ (List.getElem_mem hlk))
            have HXL := Lib.hid (HLB.out _ (List.getElem_mem hlk))
            obtain ⟨x, hxe⟩ : ∃ x, L[k] = x := ⟨_, rfl⟩
            rw [hxe] at HR HX HXL HNX
            obtain ⟨c, co, cc⟩ := x
            simp only at HX HXL HNX HR
            have HV1 := Lib.hid (callV_one c co cc)
            have HI4 := Lib.hid (show (Try.prog.info? 32).map (·.size) = some (callV c co cc).toList.length from Try.infoCall7)
            have HI5 := Lib.hid (show (Try.prog.info? 32).map (·.size) = some (callV c co cc).size from Try.infoCall7)
            have HZN := Lib.hid (show Cells wr.heap.size 32 (callV ⟨0, 0, [], 0⟩ none 0) (wr.alloc (.cells (callV ⟨0, 0, [], 0⟩ none 0) 32)) from heap_alloc_new wr _)
            have HZS := Lib.hid (show (callV ⟨0, 0, [], 0⟩ none 0).size = (callV c co cc).size from rfl)
            have HNB := Lib.hid (HX.out.nums.below hb)
            have HBO := Lib.hid (fun (P : Nat → Prop) (hP : ∀ b, P b → w.heap.size ≤ b) (hne : byteNs c.b ≠ []) (a : Addr) (ha : co = some a) (e : P a.block) => show False by
              have h1 := HX.out.block hne a ha
              have h2 := hP _ e
              omega)
            have HKB := Lib.hid (show ∀ w' : World, Below wr.heap.size wr w' → KeepX w.heap.size w (.pointer (some ad)) S gm N (mayI S) wr.heap.size w' from fun w' hb' =>
              ⟨O, vals, hd.only (Only.of (O := fun _ => False) hb') (fun _ _ => id), hO, hb.trans (hb'.mono hB), Nat.le_trans hB hb'.size, hm.only (Only.of (O := fun _ => False) hb') (fun _ _ => id), ho, fun e => Nat.lt_irrefl _ (hd.lt _ e), fun e => Nat.lt_irrefl _ (hm.lt e)⟩)
            obtain ⟨V, hV⟩ : ∃ V, callV c co cc = V := ⟨_, rfl⟩
            rw [hV] at HR HV1 HI4 HI5 HZS
            have HVE := Shut.mk hV
            clear hr hbb hxe hV hS hS1 hd hO hb hB hm ho HKL
            go_wp2_with (first
              | (refine wpList_load_mid rfl 32 _ rfl b (o + k * 4) rfl V.toList _ HR.out Try.underlying32 rfl HI4.out ?_)
              | (refine wpList_store_cells rfl 32 _ _ rfl rfl wr.heap.size _ V 32 rfl rfl HZN.out HI5.out HZS.out HV1.out ?_))
            intro w5 hc5 hb5
            have hb55 : Below wr.heap.size wr w5 := But.toBelow ((Below.refl _ _).alloc (Nat.le_refl _) (.cells (callV ⟨0, 0, [], 0⟩ none 0) 32)) hb5.out (Nat.le_refl _) (by simp)
            have HC5 := Lib.hid (show Cells wr.heap.size 32 (callV c co cc) w5 by rw [HVE.out]; exact hc5.out)
            have HK5 := Lib.hid (HKB.out w5 hb55)
            have HN5 := Lib.hid (HNB.out.below hb55)
            obtain ⟨gc, hgc⟩ : ∃ g, wr.heap.size = g := ⟨_, rfl⟩
            rw [hgc] at HC5 HK5 ⊢
            clear hgc
            have k0 : w5.cell? ⟨gc, 0, none⟩ = some (.int .i64 c.kind) := HC5.out.at 0
            clear hc5 hb5 hb55 HR HZN HKB HNB HVE HV1 HI4 HI5 HZS
            by_cases h0 : c.kind = 0
            · have e0 : (c.kind == 0) = true := by simp; omega
              have k1 : w5.cell? ⟨gc, 1, none⟩ = some (.int .i64 c.at') := HC5.out.at 1
              have k2 : w5.cell? ⟨gc, 2, none⟩ = some (.slice co c.b.length cc) := HC5.out.at 2
              have HEQ := Shut.mk (show S1 = writeS S c.at' c.b by rw [HNX.out, kindS, if_pos h0])
              clear h0
              go_wp2_with fail
              obtain ⟨O, vals, hd, hO, hb, hB, hm, ho, hx1, hx2⟩ := HK5.out
              refine (dev7_write O _ S c.at' c.b co cc w5 hd HF.out HN5.out (fun hne a ha e => HBO.out O hO hne a ha e) (by have := HXL.out; omega)).mono ?_
              rintro e w6 ⟨rfl, O', hd6, ht6⟩
              rw [← HEQ.out] at hd6
              have HC6 := Lib.hid (HC5.out.only ht6.only hx1)
              have HK6 := Lib.hid (KeepX.step hO hb hB hm ho hx1 hx2 HC5.out.lt hd6 ht6)
              clear hd hO hb hB hm ho hx1 hx2 hd6 ht6 HC5 HK5 HN5 HBO k0 k1 k2
              by_cases hE : writeE S c.at' c.b = 0
              · obtain ⟨p1, p2, _⟩ := live_wrote HLV.out hE
                have p3 := wrote_read HLV.out hE
                have p4 := wrote_may HLV.out hE
                rw [← HEQ.out] at p3 p4
                obtain ⟨a, ha⟩ : ∃ a : Nat, c.at' = a := ⟨c.at'.toNat, by omega⟩
                have haN : a < N := by rw [HSL.out] at p2; omega
                have haN2 : (a : Int) < (N : Int) := by omega
                have k1 : w6.cell? ⟨gc, 1, none⟩ = some (.int .i64 (a : Int)) := by rw [← ha]; exact HC6.out.at 1
                rw [hE]
                rw [ha] at p3 p4
                rw [Int.toNat_natCast] at p4
                have HP4 := Shut.mk p4
                obtain ⟨d, hd⟩ : ∃ d, padN c.b = d := ⟨_, rfl⟩
                rw [hd] at p3 HP4
                have HP3 := Shut.mk p3
                have HS5 := Lib.hid (show (mayI S a).length ≤ 1000000 by
                  have h1 := may_long S a
                  have h2 := HF.out.pend
                  omega)
                clear p1 p2 p3 p4 hE ha hd e0
                go_wp2_with fail
                obtain ⟨O, vals, hd, hO, hb, hB, hm, ho, hx1, hx2⟩ := HK6.out
                have hrd := dev7_read O _ S1 a w6 hd HF1.out
                rw [HP3.out] at hrd
                obtain ⟨ey, hey⟩ : ∃ ey, whyS S1 a = ey := ⟨_, rfl⟩
                rw [hey] at hrd
                refine hrd.mono ?_
                rintro e z1 ⟨⟨xo, xc, rfl, hnb⟩, hb1⟩
                have hob : Only (fun _ => False) w6 z1 := Only.of hb1
                have hm1 := hm.only hob (fun _ _ => id)
                obtain ⟨va, hva⟩ : ∃ va, vals[a]? = some va := ⟨_, List.getElem?_eq_getElem (by rw [hm.len]; exact haN)⟩
                have hta : TailV 9 va (strs (mayI S a)) z1 := by
                  rcases hm1.each a va hva with ⟨_, e⟩ | ht
                  · exact absurd (congrArg List.length e) (by simp [mayI])
                  · exact ht
                have hgz : gc < w6.heap.size := HC6.out.lt
                have hcz : z1.cell? ⟨gc, 1, none⟩ = some (.int .i64 (a : Int)) := (hb1.cell (p := ⟨gc, 1, none⟩) hgz).trans k1
                have hmz := hm1.row.get hm1.len.symm hva
                have hxo : ∀ x, xo = some x → d ≠ [] → va.ownBlock ≠ some x.block := fun x hx hne e => by
                  rcases hnb with h | ⟨g, o, h1, h2, _, _⟩
                  · exact hne h
                  · rw [hx] at h1
                    obtain rfl := Option.some.inj h1
                    have := hm.lt (.inr ⟨a, va, hva, e⟩)
                    simp only at this
                    omega
                have HAL := Lib.hid (show z1.drew.cell? ⟨gc, 1, none⟩ = some (.int .i64 (a : Int)) ∧ NumsAt xo .u8 (byteNs d) z1.drew ∧ z1.drew.cell? ⟨gm, a, none⟩ = some va from ⟨hcz, hnb.nums.below (Below.refl _ _).drew, hmz⟩)
                obtain ⟨Fa, hFa⟩ : ∃ Fa, mayI S a = Fa := ⟨_, rfl⟩
                have HAP := Lib.hid (show ∀ w' w'' : World, Below z1.heap.size z1 w' → (w'.cell? ⟨gc, 1, none⟩ = some (.int .i64 (a : Int)) ∧ NumsAt xo .u8 (byteNs d) w' ∧ w'.cell? ⟨gm, a, none⟩ = some va) → w'.grownBy w'' va.ownBlock → w''.cell? ⟨gc, 1, none⟩ = some (.int .i64 (a : Int)) ∧ NumsAt xo .u8 (byteNs d) w'' ∧ w''.cell? ⟨gm, a, none⟩ = some va from fun w' w'' hb' hA hg =>
                  ⟨hg.cell hA.1 (fun e => hx2 (.inr ⟨a, va, hva, e.symm⟩)), hA.2.1.only ((Only.refl (fun b => va.ownBlock = some b) w').grown hg (fun b hb => .inl hb)) (fun hne x hx => hxo x hx (fun e => hne (by rw [e]; rfl))), hg.cell hA.2.2 (fun e => hm1.ne hva e.symm)⟩)
                have HAB := Lib.hid (show ∀ w' w'' : World, Below w'.heap.size w' w'' → (w'.cell? ⟨gc, 1, none⟩ = some (.int .i64 (a : Int)) ∧ NumsAt xo .u8 (byteNs d) w' ∧ w'.cell? ⟨gm, a, none⟩ = some va) → w''.cell? ⟨gc, 1, none⟩ = some (.int .i64 (a : Int)) ∧ NumsAt xo .u8 (byteNs d) w'' ∧ w''.cell? ⟨gm, a, none⟩ = some va from fun w' w'' hb' hA =>
                  ⟨(hb'.cell (p := ⟨gc, 1, none⟩) (block_lt_of_cell hA.1)).trans hA.1, hA.2.1.below hb', (hb'.cell (p := ⟨gm, a, none⟩) (block_lt_of_cell hA.2.2)).trans hA.2.2⟩)
                have HTA := Lib.hid (show ∀ w' : World, Below z1.heap.size z1 w' → TailV 9 va (strs Fa) w' from fun w' hb' => by rw [← hFa]; exact hta.below hb')
                have HSL2 := Lib.hid (show (strs Fa).length ≤ 1000000 by rw [strs_length, ← hFa]; exact HS5.out)
                have HIX := Lib.hid (show ∀ w, (Instr.indexAt 44 (.slice (some ⟨gm, 0, none⟩) N N) (.int .i64 (a : Int))).run Try.prog w = .ok (.pointer (some ⟨gm, a, none⟩)) w from fun w => by go_simp)
                have HFA := Lib.hid (show ∀ w, (Instr.fieldAt 32 (.pointer (some ⟨gc, 0, none⟩)) 1).run Try.prog w = .ok (.pointer (some ⟨gc, 1, none⟩)) w from fun w => by go_simp)
                have HBL := Lib.hid (show ∀ w : World, (Instr.buildSlice 45 1 #[(0, .string ⟨d.toArray⟩)]).run Try.prog w = .ok (.slice (some ⟨w.heap.size, 0, none⟩) 1 1) (w.alloc (.cells #[.string ⟨d.toArray⟩] 9)) from fun w => by go_simp)
                have HFZ := Lib.hid (show ∀ w' : World, Only (fun b => va.ownBlock = some b) z1 w' → w'.frozen? ⟨gm, a, none⟩ = false from fun w' hk => (hm1.row.only hk (fun g hg e => hm1.ne hva (by rw [e, ← hg]; rfl))).frozen hm1.len.symm a)
                have HPUT := Lib.hid (fun (w1 : World) (v : Value) (T : List (List UInt8)) (h1 : Only (fun b => va.ownBlock = some b) z1 w1) (hv : TailV 9 v (strs T) w1) (hvo : v.ownBlock = va.ownBlock ∨ ∃ g, v.ownBlock = some g ∧ z1.heap.size ≤ g) => KeepL.put (hd.only hob (fun _ _ => id)) hO (hb.trans (hb1.mono hB)) (Nat.le_trans hB hb1.size) hm1 ho hva h1 hv hvo)
                have HFE := Shut.mk hFa
                clear hd hO hb hB hm ho hx1 hx2 hrd hnb hb1 hob hm1 hva hta hgz hcz hmz hxo k1 hey hFa HK6 HC6
                go_upto_region 20 with (fail)
                -- REGION
                refine wp_region_free 13 (fun q V w' => Val q V 0 (.slice (some ⟨gm, 0, none⟩) N N) ∧ Val q V 1 (.pointer (some ⟨gc, 1, none⟩)) ∧ Val q V 2 (.int .i64 (a : Int)) ∧ Val q V 3 (.slice (some ⟨gm, 0, none⟩) N N) ∧ Val q V 4 (.pointer (some ⟨gc, 1, none⟩)) ∧ Val q V 5 (.int .i64 (a : Int)) ∧ Val q V 6 (.pointer (some ⟨gm, a, none⟩)) ∧ Val q V 7 (va) ∧ Val q V 8 (.slice xo d.length xc) ∧ Val q V 9 (.string ⟨d.toArray⟩) ∧ Val q V 12 (.pointer (some ⟨gm, a, none⟩)) ∧ PushInv 10 11 (fun w' => w'.cell? ⟨gc, 1, none⟩ = some (.int .i64 (a : Int)) ∧ NumsAt xo .u8 (byteNs d) w' ∧ w'.cell? ⟨gm, a, none⟩ = some va) (fun w' => Below z1.heap.size z1 w') (fun wa v w' => TailV 9 v (strs Fa ++ [.string ⟨d.toArray⟩]) w' ∧ wa.grownBy w' va.ownBlock ∧ (v.ownBlock = va.ownBlock ∨ v.ownBlock = some wa.heap.size)) (.string ⟨d.toArray⟩) q V w') (fun | 0 => u81 | 1 => u82 | 2 => u83 | 3 => u84 | 4 => u85 | 5 => u86 | 6 => u87 | 7 => u88 | 8 => u89 | 9 => u90 | 10 => u91 | 11 => u92 | _ => u93) (by kernel_rfl) (by kernel_rfl) (by kernel_rfl) (by simp only [List.take_succ_cons, List.take_zero, putAll, Act.put, List.setIfInBounds_toArray, List.set_cons_zero, List.set_cons_succ]) ⟨Val.none, Val.none, Val.none, Val.none, Val.none, Val.none, Val.none, Val.none, Val.none, Val.none, Val.none, PushInv.none HAL.out (Below.refl _ _).drew⟩ ?_ ?_
                · simp only [List.take_succ_cons, List.take_zero, putAll, Nat.zero_add, Nat.reduceAdd, Act.put, List.setIfInBounds_toArray, List.set_cons_zero, List.set_cons_succ]
                  refine FreeSteps.cons ?_ (FreeSteps.cons ?_ (FreeSteps.cons ?_ (FreeSteps.cons ?_ (FreeSteps.cons ?_ (FreeSteps.cons ?_ (FreeSteps.cons ?_ (FreeSteps.cons ?_ (FreeSteps.cons ?_ (FreeSteps.cons ?_ (FreeSteps.cons ?_ (FreeSteps.cons ?_ (FreeSteps.cons ?_ (FreeSteps.nil)))))))))))))
                  all_goals (refine FreeStep.fresh rfl ?_; rintro q V wq hr hu ⟨h0, h1, h2, h3, h4, h5, h6, h7, h8, h9, h12, hp⟩ K hK)
                  · exact op_move (.tmp 8) rfl _ rfl (hK _ _ ⟨.same, h1.ne (by decide), h2.ne (by decide), h3.ne (by decide), h4.ne (by decide), h5.ne (by decide), h6.ne (by decide), h7.ne (by decide), h8.ne (by decide), h9.ne (by decide), h12.ne (by decide), hp.ne (by decide) (by decide)⟩)
                  · exact op_fieldAt 32 (.tmp 13) 1 rfl _ _ rfl HFA.out (hK _ _ ⟨h0.ne (by decide), .same, h2.ne (by decide), h3.ne (by decide), h4.ne (by decide), h5.ne (by decide), h6.ne (by decide), h7.ne (by decide), h8.ne (by decide), h9.ne (by decide), h12.ne (by decide), hp.ne (by decide) (by decide)⟩)
                  · exact op_load_cell 3 (.tmp 82) rfl _ _ (h1 (hr { on := 1, ground := .data } (by simp) rfl)) hp.always.1 Try.isAgg3 (hK _ _ ⟨h0.ne (by decide), h1.ne (by decide), .same, h3.ne (by decide), h4.ne (by decide), h5.ne (by decide), h6.ne (by decide), h7.ne (by decide), h8.ne (by decide), h9.ne (by decide), h12.ne (by decide), hp.ne (by decide) (by decide)⟩)
                  · exact op_move (.tmp 8) rfl _ rfl (hK _ _ ⟨h0.ne (by decide), h1.ne (by decide), h2.ne (by decide), .same, h4.ne (by decide), h5.ne (by decide), h6.ne (by decide), h7.ne (by decide), h8.ne (by decide), h9.ne (by decide), h12.ne (by decide), hp.ne (by decide) (by decide)⟩)
                  · exact op_fieldAt 32 (.tmp 13) 1 rfl _ _ rfl HFA.out (hK _ _ ⟨h0.ne (by decide), h1.ne (by decide), h2.ne (by decide), h3.ne (by decide), .same, h5.ne (by decide), h6.ne (by decide), h7.ne (by decide), h8.ne (by decide), h9.ne (by decide), h12.ne (by decide), hp.ne (by decide) (by decide)⟩)
                  · exact op_load_cell 3 (.tmp 85) rfl _ _ (h4 (hr { on := 4, ground := .data } (by simp) rfl)) hp.always.1 Try.isAgg3 (hK _ _ ⟨h0.ne (by decide), h1.ne (by decide), h2.ne (by decide), h3.ne (by decide), h4.ne (by decide), .same, h6.ne (by decide), h7.ne (by decide), h8.ne (by decide), h9.ne (by decide), h12.ne (by decide), hp.ne (by decide) (by decide)⟩)
                  · exact op_indexAt 44 (.tmp 84) (.tmp 86) rfl _ _ _ (h3 (hr { on := 3, ground := .data } (by simp) rfl)) (h5 (hr { on := 5, ground := .data } (by simp) rfl)) HIX.out (hK _ _ ⟨h0.ne (by decide), h1.ne (by decide), h2.ne (by decide), h3.ne (by decide), h4.ne (by decide), h5.ne (by decide), .same, h7.ne (by decide), h8.ne (by decide), h9.ne (by decide), h12.ne (by decide), hp.ne (by decide) (by decide)⟩)
                  · exact op_load_cell 45 (.tmp 87) rfl _ va (h6 (hr { on := 6, ground := .data } (by simp) rfl)) hp.always.2.2 Try.isAgg45 (hK _ _ ⟨h0.ne (by decide), h1.ne (by decide), h2.ne (by decide), h3.ne (by decide), h4.ne (by decide), h5.ne (by decide), h6.ne (by decide), .same, h8.ne (by decide), h9.ne (by decide), h12.ne (by decide), hp.ne (by decide) (by decide)⟩)
                  · exact op_move (.tmp 14) rfl _ rfl (hK _ _ ⟨h0.ne (by decide), h1.ne (by decide), h2.ne (by decide), h3.ne (by decide), h4.ne (by decide), h5.ne (by decide), h6.ne (by decide), h7.ne (by decide), .same, h9.ne (by decide), h12.ne (by decide), hp.ne (by decide) (by decide)⟩)
                  · exact op_conv 29 9 (.tmp 89) rfl _ _ (h8 (hr { on := 8, ground := .data } (by simp) rfl)) (conv_in (P := Try.prog) Try.underlying29 Try.underlying5 Try.underlying9 (c := xc) hp.always.2.1) (hK _ _ ⟨h0.ne (by decide), h1.ne (by decide), h2.ne (by decide), h3.ne (by decide), h4.ne (by decide), h5.ne (by decide), h6.ne (by decide), h7.ne (by decide), h8.ne (by decide), .same, h12.ne (by decide), hp.ne (by decide) (by decide)⟩)
                  · have hba : Below wq.heap.size wq (wq.alloc (.cells #[.string ⟨d.toArray⟩] 9)) := (Below.refl _ _).alloc (Nat.le_refl _) _
                    exact op_build1 45 9 (.tmp 90) rfl (.string ⟨d.toArray⟩) (h9 (hr { on := 9, ground := .data } (by simp) rfl)) HBL.out (hK _ _ ⟨h0.ne (by decide), h1.ne (by decide), h2.ne (by decide), h3.ne (by decide), h4.ne (by decide), h5.ne (by decide), h6.ne (by decide), h7.ne (by decide), h8.ne (by decide), h9.ne (by decide), h12.ne (by decide), hp.build hu (by decide) (HAB.out _ _ hba hp.always) (fun h => h.trans (hba.mono h.size))⟩)
                  · have h10 := hr { on := 10, ground := .data } (by simp) rfl
                    obtain ⟨gl, hv8, hc8⟩ := hp.lit h10 hu
                    refine op_push_tail (.tmp 88) (.tmp 91) 45 9 rfl (.string ⟨#[]⟩) 16 rfl (by decide) Try.underlying45 Try.infoString va (strs Fa) (.string ⟨d.toArray⟩) rfl ⟨gl, 0, none⟩ 1 (h7 (hr { on := 7, ground := .data } (by simp) rfl)) (HTA.out _ (hp.mid hu)) hv8 hc8 HSL2.out ?_
                    intro v' w' hrow hg hv
                    exact hK _ _ ⟨h0.ne (by decide), h1.ne (by decide), h2.ne (by decide), h3.ne (by decide), h4.ne (by decide), h5.ne (by decide), h6.ne (by decide), h7.ne (by decide), h8.ne (by decide), h9.ne (by decide), h12.ne (by decide), hp.push h10 hu (HAP.out _ _ (hp.mid hu) hp.always hg) ⟨hrow, hg, hv⟩⟩
                  · exact op_indexAt 44 (.tmp 81) (.tmp 83) rfl _ _ _ (h0 (hr { on := 0, ground := .data } (by simp) rfl)) (h2 (hr { on := 2, ground := .data } (by simp) rfl)) HIX.out (hK _ _ ⟨h0.ne (by decide), h1.ne (by decide), h2.ne (by decide), h3.ne (by decide), h4.ne (by decide), h5.ne (by decide), h6.ne (by decide), h7.ne (by decide), h8.ne (by decide), h9.ne (by decide), .same, hp.ne (by decide) (by decide)⟩)
                rintro q V2 w8 hall ⟨h0, h1, h2, h3, h4, h5, h6, h7, h8, h9, h12, hp⟩
                have v0 := h0 (hall 0 (by decide))
                have v1 := h1 (hall 1 (by decide))
                have v2 := h2 (hall 2 (by decide))
                have v3 := h3 (hall 3 (by decide))
                have v4 := h4 (hall 4 (by decide))
                have v5 := h5 (hall 5 (by decide))
                have v6 := h6 (hall 6 (by decide))
                have v7 := h7 (hall 7 (by decide))
                have v8 := h8 (hall 8 (by decide))
                have v9 := h9 (hall 9 (by decide))
                have v12 := h12 (hall 12 (by decide))
                obtain ⟨wa, hba, hr8, hg8, hv8⟩ := hp.fin (hall 11 (by decide))
                obtain ⟨v10v, v10⟩ : ∃ v, V2 10 = v := ⟨_, rfl⟩
                obtain ⟨g8, o8, c8, hq8, _, _⟩ := hr8.form
                obtain ⟨n8, hn8⟩ : ∃ n, (strs Fa ++ [Value.string ⟨d.toArray⟩]).length = n := ⟨_, rfl⟩
                rw [hn8] at hq8
                rw [hq8] at hr8 hv8
                have hcl8 := hp.always.2.2
                simp only [List.take_succ_cons, List.take_zero, List.drop_succ_cons, List.drop_zero, putAll, Nat.zero_add, Nat.reduceAdd, v0, v1, v2, v3, v4, v5, v6, v7, v8, v9, v12, v10, hq8, Act.put, List.setIfInBounds_toArray, List.set_cons_zero, List.set_cons_succ]
                clear h0 h1 h2 h3 h4 h5 h6 h7 h8 h9 h12 v0 v1 v2 v3 v4 v5 v6 v7 v8 v9 v12 hp v10 hall hn8 hq8
                -- END REGION
                have hk8 := (Only.of (O := fun b => va.ownBlock = some b) hba).grown hg8 (fun b hb => .inl hb)
                have hfz8 := HFZ.out w8 hk8
                have HKP8 := Lib.hid (HPUT.out w8 _ (Fa ++ [d]) hk8 (by rw [strs_snoc]; exact hr8) (by
                  rcases hv8 with e | e
                  · exact .inl e
                  · exact .inr ⟨_, e, hba.size⟩))
                clear hk8 hba hr8 hg8 hv8 HPUT HFZ HAL HAP HAB HTA HSL2 HIX HFA HBL
                go_wp2_with fail
                refine ⟨⟨k + 1, by omega, by go_num, ?_⟩, by simp [intOf]; omega⟩
                rw [HS1.out]
                refine HKP8.out.congr fun i _ => ?_
                rw [HP4.out i]
                by_cases hia : i = a
                · subst hia
                  rw [if_pos rfl, if_pos rfl, HFE.out]
                · rw [if_neg hia, if_neg hia]
              · have e1 : (((writeE S c.at' c.b : Nat) : Int) == 0) = false := by simp; omega
                have HST := Shut.mk (live_stays HLV.out hE)
                obtain ⟨E, hEE⟩ : ∃ E, writeE S c.at' c.b = E := ⟨_, rfl⟩
                rw [hEE] at e1 ⊢
                clear hE hEE
                go_wp2_with fail
                exact ⟨⟨k + 1, by omega, by go_num, by rw [HS1.out]; have h := HK6.out.keep; rw [← HST.out, ← HEQ.out] at h; exact h⟩, by simp [intOf]; omega⟩
            · by_cases h2 : c.kind = 2
              · have e0 : (c.kind == 0) = false := by simp; omega
                have e2 : (c.kind == 2) = true := by simp; omega
                have HEQ := Shut.mk (show S1 = syncS S by rw [HNX.out, kindS, if_neg h0, if_pos h2])
                have HSE := Shut.mk (live_syncE HLV.out)
                have HSM := Lib.hid (fun (i : Nat) (hi : i < N) => show mayI S1 i = (mayI S i).drop ((mayI S i).length - 1) by rw [HEQ.out]; exact synced_may HLV.out (by rw [HSL.out]; exact hi))
                clear h0 h2
                go_wp2_with fail
                obtain ⟨O, vals, hd, hO, hb, hB, hm, ho, _, _⟩ := HK5.out
                have hsy := dev7_sync O _ S w5 hd HF.out
                rw [HSE.out, ← HEQ.out] at hsy
                refine hsy.mono ?_
                rintro e w6 ⟨rfl, O', hd6, ht6⟩
                have HK6 := Lib.hid (KeepL.step hO hb hB hm ho hd6 ht6)
                clear hd hO hb hB hm ho hsy hd6 ht6 HC5 HK5 HN5 HBO k0 e0 e2
                go_wp2_with fail
                go_loopw [101] (fun i wq => ∃ j : Nat, j ≤ N ∧ i = .int .i64 j ∧ KeepL w.heap.size w (.pointer (some ad)) S1 gm N (fun i => if i < j then mayI S1 i else mayI S i) wq) (fun i _ => N - (intOf i).toNat)
                case atStart => exact ⟨0, by omega, rfl, HK6.out.congr fun i _ => by simp⟩
                case round =>
                  clear HK6
                  obtain ⟨j, hjN, rfl, hkl⟩ := hrel
                  have HKL := Lib.hid hkl
                  clear hkl
                  by_cases hlj : j < N
                  · have hlj2 : (j : Int) < (N : Int) := by omega
                    obtain ⟨O, vals, hd, hO, hb, hB, hm, ho⟩ := HKL.out
                    obtain ⟨vj, hvj⟩ : ∃ vj, vals[j]? = some vj := ⟨_, List.getElem?_eq_getElem (by rw [hm.len]; exact hlj)⟩
                    have hta : TailV 9 vj (strs (mayI S j)) wr := by
                      rcases hm.each j vj hvj with ⟨_, e⟩ | ht
                      · rw [if_neg (by omega)] at e
                        exact absurd (congrArg List.length e) (by simp [mayI])
                      · rw [if_neg (by omega)] at ht
                        exact ht
                    obtain ⟨gj, oj, cj, hvq, _, hnc⟩ := hta.form
                    obtain ⟨m, hmm⟩ : ∃ m, (mayI S j).length = m + 1 := ⟨(mayI S j).length - 1, by have := may_len S j; omega⟩
                    rw [strs_length, hmm] at hvq hnc
                    subst hvq
                    have hcut := hta.cut (k := m) (by omega)
                    have hdrop : (strs (mayI S j)).drop m = strs (mayI S1 j) := by
                      rw [HSM.out j hlj, hmm, Nat.add_sub_cancel, strs, strs, List.map_drop]
                    rw [hdrop] at hcut
                    have hcl := hm.row.get hm.len.symm hvj
                    have HCL := Lib.hid (fun (w' : World) (h : Below wr.heap.size wr w') => show w'.cell? ⟨gm, j, none⟩ = some (.slice (some ⟨gj, oj, none⟩) (m + 1) cj) from (h.cell (p := ⟨gm, j, none⟩) (block_lt_of_cell hcl)).trans hcl)
                    have HFZ := Lib.hid (fun (w' : World) (h : Below wr.heap.size wr w') => show w'.frozen? ⟨gm, j, none⟩ = false from (hm.only (Only.of (O := fun _ => False) h) (fun _ _ => id)).row.frozen hm.len.symm j)
                    have HPUT := Lib.hid (fun (w' : World) (h : Below wr.heap.size wr w') => KeepL.put hd hO hb hB hm ho hvj (Only.of h) (hcut.below h) (.inl rfl))
                    have hnc2 : (m : Int) < (cj : Int) := by omega
                    have hm1 : ((m + 1 : Nat) : Int) - 1 = (m : Int) := by omega
                    have hm6 : m ≤ 1000000 := by
                      have h1 := may_long S j
                      have h2 := HF.out.pend
                      omega
                    have HMW := Shut.mk (show wrap64 (m : Int) = (m : Int) by unfold wrap64; omega)
                    clear hd hO hb hB hm ho hvj hta hmm hcut hdrop hcl HKL
                    go_upto_region 26 with (fail)
                    refine wp_region_class_tail (fun w' => Below wr.heap.size wr w') 14 (by kernel_rfl) (by kernel_rfl) (Below.refl _ _).drew ?_
                    simp only [List.take_succ_cons, List.take_zero, List.drop_succ_cons, List.drop_zero]
                    have HCT := Lib.hid (show ∀ y : Int, y = m → ∀ w, (Instr.sliceAt 45 (.slice (some ⟨gj, oj, none⟩) (m + 1) cj) (some (.int .i64 y)) none none).run Try.prog w = .ok (.slice (some ⟨gj, oj + m, none⟩) (m + 1 - m) (cj - m)) w from fun y hy w => by subst hy; go_simp; rw [if_pos (by omega), if_neg (by omega)])
                    repeat (first
                      | (go_big_quiet_want; refine quiet_load_cell 45 _ rfl ⟨gm, j, none⟩ _ rfl HCL.out Try.isAgg45 ?_; go_big_quiet_on; simp only [Act.put, List.setIfInBounds_toArray, List.set_cons_zero, List.set_cons_succ])
                      | (go_big_quiet_want; refine quiet_slice_lo 45 (.tmp 109) (.tmp 115) rfl _ (.int .i64 _) _ rfl rfl (HCT.out _ (by first | rfl | exact HMW.out)) ?_; go_big_quiet_on; simp only [Act.put, List.setIfInBounds_toArray, List.set_cons_zero, List.set_cons_succ])
                      | go_big_quiet_step ((intro hs'; rfl)))
                    refine wpQuiet_nil ?_
                    intro w8 hs8
                    have hc8 := HCL.out w8 hs8
                    have hf8 := HFZ.out w8 hs8
                    have hk8 := HPUT.out w8 hs8
                    rw [show m + 1 - m = 1 by omega] at hk8
                    have HK8 := Lib.hid hk8
                    clear hs8 hk8 HPUT HCL HFZ HCT
                    go_wp2_with fail
                    refine ⟨⟨j + 1, by omega, by go_num, HK8.out.congr fun i _ => ?_⟩, by simp [intOf]; omega⟩
                    by_cases hij : i = j
                    · subst hij
                      rw [if_pos rfl, if_pos (by omega)]
                    · rw [if_neg hij]
                      by_cases hlt : i < j
                      · rw [if_pos hlt, if_pos (by omega)]
                      · rw [if_neg hlt, if_neg (by omega)]
                  · obtain rfl : N = j := by omega
                    have hnj : ¬ (N : Int) < (N : Int) := by omega
                    have HK7 := Lib.hid (HKL.out.congr (F' := mayI S1) fun i hi => by rw [if_pos hi])
                    clear HKL
                    go_wp2_with fail
                    exact ⟨⟨k + 1, by omega, by go_num, by rw [HS1.out]; exact HK7.out⟩, by simp [intOf]; omega⟩
              · have e0 : (c.kind == 0) = false := by simp; omega
                have e2 : (c.kind == 2) = false := by simp; omega
                have HEQ := Shut.mk (show S1 = S by rw [HNX.out, kindS, if_neg h0, if_neg h2])
                clear h0 h2
                go_wp2_with fail
                exact ⟨⟨k + 1, by omega, by go_num, by rw [HS1.out, HEQ.out]; exact HK5.out.keep⟩, by simp [intOf]; omega⟩
          · obtain rfl : k = L.length := by omega
            have hnw : ¬ ((L.length : Nat) : Int) < ((L.length : Nat) : Int) := by omega
            have HF := Lib.hid ((kpK_fit N L L.length (by omega)).mono (show L.length ≤ 999999 by have := HL100.out; omega))
            have HSL := Shut.mk ((kpK_len N L L.length (by omega)).trans HSZ.out)
            have hlv := kpK_live N L L.length (by omega)
            obtain ⟨S, hS⟩ : ∃ S, kpK N L L.length = S := ⟨_, rfl⟩
            rw [hS] at HKL HF HSL hlv
            have HGM := Lib.hid (fun (i : Nat) (hi : i < N) => gone_may hlv kp (i := i) (by rw [HSL.out]; exact hi))
            have HWT := Shut.mk (gone_waits hlv kp)
            have HFG := Lib.hid (HF.out.gone kp)
            have HFO := Lib.hid (HF.out.gone kp).on
            have HML := Lib.hid (fun (i : Nat) => show (mayI S i).length ≤ 1000000 from by
              have h1 := may_long S i
              have h2 := HF.out.pend
              omega)
            obtain ⟨SG, hSG⟩ : ∃ SG, goneS S kp = SG := ⟨_, rfl⟩
            have HEG := Shut.mk hSG
            rw [hSG] at HGM HWT HFG HFO
            obtain ⟨S2, hS2⟩ : ∃ S2, onS SG = S2 := ⟨_, rfl⟩
            have HE2 := Shut.mk hS2
            rw [hS2] at HGM HWT HFO
            clear hS hlv hSG hS2 HOK HLB H HSL
            go_wp2_with fail
            obtain ⟨O, vals, hd, hO, hb, hB, hm, ho⟩ := HKL.out
            refine (dev7_off O _ S kp wr hd HF.out HKP.out).mono ?_
            rintro e z1 ⟨rfl, O', hd', ht'⟩
            rw [HEG.out] at hd'
            have HK1 := Lib.hid (KeepL.step hO hb hB hm ho hd' ht')
            clear hd hO hb hB hm ho hd' ht' HKL HF
            go_wp2_with fail
            obtain ⟨O, vals, hd, hO, hb, hB, hm, ho⟩ := HK1.out
            refine (dev7_on O _ SG z1 hd HFG.out).mono ?_
            rintro e z2 ⟨rfl, O', hd', ht'⟩
            rw [HE2.out] at hd'
            have HK2 := Lib.hid (KeepL.step hO hb hB hm ho hd' ht')
            clear hd hO hb hB hm ho hd' ht' HK1 HFG
            go_wp2_with fail
            go_loopw [127] (fun i wq => ∃ j : Nat, j ≤ N ∧ i = .int .i64 j ∧ KeepL w.heap.size w (.pointer (some ad)) S2 gm N (mayI S) wq) (fun i _ => N - (intOf i).toNat)
            case atStart => exact ⟨0, by omega, rfl, HK2.out⟩
            case round =>
              clear HK2
              obtain ⟨j, hjN, rfl, hkl⟩ := hrel
              have HKL := Lib.hid hkl
              clear hkl
              by_cases hlj : j < N
              · have hlj2 : (j : Int) < (N : Int) := by omega
                obtain ⟨O, vals, hd, hO, hb, hB, hm, ho⟩ := HKL.out
                obtain ⟨q1, q2⟩ := HGM.out j hlj
                have hrd := dev7_read O _ S2 j wr hd HFO.out
                rw [q2] at hrd
                obtain ⟨t, ht⟩ : ∃ t, readB S2 j = t := ⟨_, rfl⟩
                rw [ht] at hrd q1
                have HRD := Lib.hid hrd
                have HTM := Lib.hid q1
                obtain ⟨vj, hvj⟩ : ∃ vj, vals[j]? = some vj := ⟨_, List.getElem?_eq_getElem (by rw [hm.len]; exact hlj)⟩
                have hta : TailV 9 vj (strs (mayI S j)) wr := by
                  rcases hm.each j vj hvj with ⟨_, e⟩ | ht
                  · exact absurd (congrArg List.length e) (by simp [mayI])
                  · exact ht
                obtain ⟨gj, oj, cj, hvq, _, hnc⟩ := hta.form
                have HML1 := Lib.hid (HML.out j)
                obtain ⟨F, hF⟩ : ∃ F, mayI S j = F := ⟨_, rfl⟩
                rw [hF] at HTM hvq hnc hta HML1
                obtain ⟨n, hnn⟩ : ∃ n, F.length = n := ⟨_, rfl⟩
                rw [strs_length, hnn] at hvq hnc
                subst hvq
                have HN := Shut.mk hnn
                have HTA := Lib.hid hta
                have HCL := Lib.hid (hm.row.get hm.len.symm hvj)
                clear hd hO hb hB hm ho q1 q2 hrd ht hvj hta hF hnn
                go_wp2_with fail
                refine HRD.out.mono ?_
                rintro e z3 ⟨⟨xo, xc, rfl, hnb⟩, hb1⟩
                have HKZ := Lib.hid (HKL.out.below hb1)
                have HNU := Lib.hid hnb.nums
                have HTZ := Lib.hid (HTA.out.below hb1)
                have hcl := (hb1.cell (p := ⟨gm, j, none⟩) (block_lt_of_cell HCL.out)).trans HCL.out
                clear hnb hb1 HRD HKL HTA HCL
                go_wp2_with fail
                have hn6 : n ≤ 1000000 := by rw [← HN.out]; exact HML1.out
                go_loopw [20, 141] (fun f i wq => ∃ q : Nat, q ≤ n ∧ i = .int .i64 q ∧ f = .bool (decide (t ∈ F.take q)) ∧ wq = z3) (fun _ i _ => n - (intOf i).toNat)
                case atStart => exact ⟨0, by omega, rfl, by simp, rfl⟩
                case round =>
                  obtain ⟨q, hqn, rfl, rfl, rfl⟩ := hrel
                  by_cases hlq : q < n
                  · have hlq2 : (q : Int) < (n : Int) := by omega
                    have hqF : q < F.length := by rw [HN.out]; exact hlq
                    have hcq := HTZ.out.get (strs_get hqF)
                    have hcv := conv_in (P := Try.prog) Try.underlying29 Try.underlying5 Try.underlying9 (c := xc) HNU.out
                    have HTK := Shut.mk (show decide (t ∈ F.take (q + 1)) = (decide (t ∈ F.take q) || decide (F.getD q [] = t)) by
                      rw [← take_snoc F hqF]
                      simp only [List.mem_append, List.mem_singleton, Bool.decide_or]
                      congr 1
                      exact decide_eq_decide.2 ⟨Eq.symm, Eq.symm⟩)
                    obtain ⟨p, hp⟩ : ∃ p, decide (t ∈ F.take q) = p := ⟨_, rfl⟩
                    obtain ⟨s, hs⟩ : ∃ s, F.getD q [] = s := ⟨_, rfl⟩
                    rw [hs] at hcq HTK
                    rw [hp] at HTK ⊢
                    clear hqF hp hs
                    cases p with
                    | true =>
                      clear hcv
                      go_wp2_with fail
                      exact ⟨⟨q + 1, by omega, by go_num, by rw [HTK.out]; rfl, trivial⟩, by simp [intOf]; omega⟩
                    | false =>
                      by_cases hst : s = t
                      · subst hst
                        go_wp2_with fail
                        exact ⟨⟨q + 1, by omega, by go_num, by rw [HTK.out]; simp, trivial⟩, by simp [intOf]; omega⟩
                      · go_wp2_with fail
                        exact ⟨⟨q + 1, by omega, by go_num, by rw [HTK.out]; simp [hst], trivial⟩, by simp [intOf]; omega⟩
                  · obtain rfl : n = q := by omega
                    have hnq : ¬ (n : Int) < (n : Int) := by omega
                    rw [show decide (t ∈ F.take n) = true by rw [decide_eq_true_eq, ← HN.out, List.take_length]; exact HTM.out]
                    go_wp2_with fail
                    exact ⟨⟨j + 1, by omega, by go_num, HKZ.out⟩, by simp [intOf]; omega⟩
              · obtain rfl : N = j := by omega
                have hnj : ¬ (N : Int) < (N : Int) := by omega
                obtain ⟨O, vals, hd, hO, hb, hB, hm, ho⟩ := HKL.out
                have hwt := dev7_waits O _ S2 wr hd HFO.out
                rw [HWT.out] at hwt
                have HWA := Lib.hid hwt
                have HBW := Lib.hid hb
                have HBB := Lib.hid hB
                clear hd hO hb hB hm ho hwt HKL
                go_wp2_with fail
                refine HWA.out.mono ?_
                rintro e z4 ⟨rfl, hb4⟩
                have HB4 := Lib.hid (HBW.out.trans (hb4.mono HBB.out))
                clear hb4 HWA HBW HBB
                go_wp2_with fail
                go_ret
                exact ⟨rfl, HB4.out⟩
end diskKeeps
end Go.Proofs.Ytmkelboncapkpaa
