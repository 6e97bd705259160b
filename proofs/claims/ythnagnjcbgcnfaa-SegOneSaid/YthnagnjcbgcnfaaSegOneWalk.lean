/-
  The law SegOne: its walk.
-/
import Derived.Test.YthnagnjcbgcnfaaTwin
import Derived.Test.YthnagnjcbgcnfaaSame
namespace Go.Proofs.Ythnagnjcbgcnfaa
open Go.RowKit Go.BigFrame

namespace segOne
set_option maxHeartbeats 4000000 in
set_option maxRecDepth 100000 in
theorem walk (w : World) (lo : Option Addr) (T : List (List UInt8)) (lc : Nat) (hs : StrsAt lo T w) (hl : T.length ≤ 140737488351232) (ht : ∀ t ∈ T, t.length ≤ 140737488351232) (m : Int) (_hm : (Lit.int .i64 m).wf = true) :
    Calls Try.prog 4 #[.slice lo T.length lc, .int .i64 m] w fun e w' => e = .returned (.bool true) ∧ Below w.heap.size w w' := by
  have H := Lib.hid hs
  have HT := Lib.hid ht
  have HG := Shut.mk (show great8N [⟨0, T, lo, lc, 0, 0⟩] = decide (4096 < costT T) by
    have e : costB [⟨0, T, lo, lc, 0, 0⟩] = costT T := by simp [costB]
    rw [great8N, e]
    simp)
  clear hs ht _hm
  go_enter Try.func4, Try.ntmps4
  go_wp2_with fail
  refine (alive8_any w).mono ?_
  rintro e w1 ⟨rfl, hb1⟩
  have HB1 := Lib.hid hb1
  have HW1 := Lib.hid hb1.size
  clear hb1
  go_wp2_with fail
  have hba : Below w1.heap.size w1 (w1.alloc (.cells #[.int .i64 0, .slice lo T.length lc, .int .i64 0, .int .u64 0] 35)) := (Below.refl _ _).alloc (Nat.le_refl _) _
  have hgr := great8_any (some ⟨w1.heap.size, 0, none⟩) [⟨0, T, lo, lc, 0, 0⟩] 1 (w1.alloc (.cells #[.int .i64 0, .slice lo T.length lc, .int .i64 0, .int .u64 0] 35)) (.inr ⟨w1.heap.size, 0, rfl, by simp, fun i hi => by
    obtain rfl : i = 0 := by simpa using hi
    intro j v hj
    rw [Nat.zero_mul, Nat.zero_add, Lib.cell_of_heap (heap_alloc_new w1 _)]
    simpa [batchV] using hj⟩) (fun x hx => by
    obtain rfl := List.mem_singleton.1 hx
    exact ⟨(H.out.below HB1.out).below hba, hl, HT.out⟩) (by simp)
  rw [HG.out] at hgr
  have HGR := Lib.hid hgr
  have HBA := Lib.hid (HB1.out.trans (hba.mono HW1.out))
  clear hgr hba HB1 HG
  obtain ⟨g, hg⟩ : ∃ g, decide (4096 < costT T) = g := ⟨_, rfl⟩
  rw [hg] at HGR
  refine HGR.out.mono ?_
  rintro e w2 ⟨rfl, hb2⟩
  have HB2 := Lib.hid (HBA.out.trans (hb2.mono HBA.out.size))
  have HW2 := Lib.hid HB2.out.size
  clear hb2 HBA HGR HW1
  have HGE := Shut.mk hg
  clear hg
  cases g with
  | true =>
    go_wp2_with fail
    go_ret
    exact ⟨rfl, HB2.out⟩
  | false =>
    by_cases h60 : 60 < T.length
    · have h60' : (60 : Int) < (T.length : Int) := by omega
      go_wp2_with fail
      go_ret
      exact ⟨rfl, HB2.out⟩
    · have h60' : ¬ (60 : Int) < (T.length : Int) := by omega
      by_cases h0 : m < 0
      · go_wp2_with fail
        go_ret
        exact ⟨rfl, HB2.out⟩
      · by_cases h1 : 1 < m
        · go_wp2_with fail
          go_ret
          exact ⟨rfl, HB2.out⟩
        · have HC := Lib.hid (show costT T ≤ 4096 by have := of_decide_eq_false HGE.out; omega)
          have H60 := Lib.hid (show T.length ≤ 60 by omega)
          clear HGE h60 hl
          have HTL := Lib.hid (show ∀ t ∈ T, t.length ≤ 4096 from fun t ht => by have := costT_mem ht; have := HC.out; omega)
          have HTB := Lib.hid (show (textsB T).length ≤ 7424 by have := textsB_bound T HTL.out; have := HC.out; omega)
          have HF0 := Lib.hid (fit_new 60)
          have HLV := Lib.hid (live_new 60 (by decide) (by decide))
          have HLN := Shut.mk (newS_len 60 (by decide))
          have HFU := Shut.mk (show (newS ((60 : Nat) : Int)).fuse = 0 from rfl)
          obtain ⟨s0, hs0⟩ : ∃ s, newS ((60 : Nat) : Int) = s := ⟨_, rfl⟩
          have HF0' := Lib.hid (show Fit (newS ((60 : Nat) : Int)) 0 from HF0.out)
          rw [hs0] at HF0' HLV HLN HFU
          have H0 := Shut.mk (show newS 60 = s0 from hs0)
          clear hs0 HF0
          go_wp2_with fail
          refine (dev7_new 60 w2).mono ?_
          rintro e w3 ⟨⟨vd, O, rfl, hd, hO⟩, hb3⟩
          rw [H0.out] at hd
          obtain ⟨ad, rfl⟩ := hd.ptr
          have HD3 := Lib.hid hd
          have HO3 := Lib.hid hO
          have HB3 := Lib.hid hb3
          clear hd hO hb3
          go_wp2_with fail
          refine (dev7_new 60 w3).mono ?_
          rintro e w4 ⟨⟨vq, O', rfl, hq, hO'⟩, hb4⟩
          rw [H0.out] at hq
          obtain ⟨aq, rfl⟩ := hq.ptr
          have HD4 := Lib.hid hq
          have HO4 := Lib.hid hO'
          have HB4 := Lib.hid hb4
          clear hq hO' hb4
          go_wp2_with fail
          refine (dev8_open O _ s0 0 [] w4 (HD3.out.only (Only.of (O := fun _ => False) HB4.out) (fun _ _ => id)) (HF0'.out.mono (by omega)) HLV.out.off HLV.out.now (fun r hr => by cases hr)).mono ?_
          rintro e w5 ⟨⟨vs, P, a5, c5, rfl, hs5, hP5, _, _⟩, hb5⟩
          obtain ⟨sd, rfl⟩ := hs5.ptr
          have HS5 := Lib.hid hs5
          have HP5 := Lib.hid hP5
          have HB5 := Lib.hid hb5
          clear hs5 hP5 hb5
          simp only [List.length_nil]
          go_wp2_with fail
          refine (dev8_open O' _ s0 0 [] w5 (HD4.out.only (Only.of (O := fun _ => False) HB5.out) (fun _ _ => id)) (HF0'.out.mono (by omega)) HLV.out.off HLV.out.now (fun r hr => by cases hr)).mono ?_
          rintro e w6 ⟨⟨vt, P', a6, c6, rfl, hs6, hP6, _, _⟩, hb6⟩
          obtain ⟨sq, rfl⟩ := hs6.ptr
          have HTW := Lib.hid (twin_new HW2.out HB2.out HD3.out HO3.out HB3.out HD4.out HO4.out HB4.out HS5.out HP5.out HB5.out hs6 hP6 hb6)
          clear hs6 hP6 hb6 HD3 HO3 HB3 HD4 HO4 HB4 HS5 HP5 HB5 HB2 HW2
          simp only [List.length_nil]
          go_wp2_with fail
          have HLO := Lib.hid (show T ≠ [] → ∀ a, lo = some a → a.block < w.heap.size from fun hne a ha => H.out.lt hne ha)
          refine (HTW.out.app (L := T) (Below.refl _ _) HLV.out HFU.out HF0'.out (by rw [HLN.out]; omega) (H.out.below HTW.out.world.1) (fun hne a ha => .inl (HLO.out hne a ha)) (fun t ht => by have := HTL.out t ht; omega) (by rw [show textsB [] = [] from rfl, List.nil_append, HLN.out]; exact HTB.out) (by decide)).mono ?_
          rintro e w7 ⟨rfl, s1, htw, hlv1, hfu1, hf1, hl1⟩
          rw [show textsB [] = [] from rfl, List.nil_append] at htw hlv1
          rw [HLN.out] at hf1 hl1
          have HTW7 := Lib.hid htw
          have HLV1 := Lib.hid hlv1
          have HF1 := Lib.hid (hf1.mono (show 0 + 60 + 4 ≤ 900000 by omega))
          clear htw hlv1 hfu1 hf1 hl1 HTW
          go_wp2_with fail
          go_loopw [72] (fun i wq => ∃ j : Nat, j ≤ T.length ∧ i = .int .i64 j ∧ ∃ s2, Twin w.heap.size w (.pointer (some aq)) (.pointer (some sq)) s2 j (textsB (T.take j)) (.pointer (some ad)) (.pointer (some sd)) s1 (0 + 1) (textsB T) wq ∧ Live s2 j (textsB (T.take j)) ∧ s2.fuse = 0 ∧ Fit s2 (64 * j) ∧ s2.safe.length = 60) (fun i _ => T.length - (intOf i).toNat)
          case atStart => exact ⟨0, by omega, rfl, s0, HTW7.out.swap, HLV.out, HFU.out, HF0'.out, HLN.out⟩
          case round =>
            clear HTW7
            obtain ⟨j, hj, rfl, s2, htw, hlv2, hfu2, hf2, hl2⟩ := hrel
            have HTWR := Lib.hid htw
            have HLV2 := Lib.hid hlv2
            have HFU2 := Shut.mk hfu2
            have HF2 := Lib.hid hf2
            have HL2 := Shut.mk hl2
            clear htw hlv2 hfu2 hf2 hl2
            have h60j := H60.out
            by_cases hjl : j < T.length
            · have hjl2 : (j : Int) < (T.length : Int) := by omega
              obtain ⟨b, o, rfl, hb', hcell⟩ : ∃ b o, lo = some ⟨b, o, none⟩ ∧ b < w.heap.size ∧ ∀ j (h : j < T.length), w.cell? ⟨b, o + j, none⟩ = some (.string ⟨(T[j]).toArray⟩) := by
                rcases H.out with h | h
                · rw [h] at hjl; cases hjl
                · exact h
              have cj := (HTWR.out.world.1.cell (p := ⟨b, o + j, none⟩) hb').trans (hcell j hjl)
              have HTK := Shut.mk (List.take_succ_eq_append_getElem hjl)
              have hxl := HTL.out _ (List.getElem_mem hjl)
              have hpre : (textsB (T.take (j + 1))).length ≤ (textsB T).length := by
                have h := textsB_append (T.take (j + 1)) (T.drop (j + 1))
                rw [List.take_append_drop] at h
                rw [h, List.length_append]
                omega
              obtain ⟨x, hx⟩ : ∃ x, T[j] = x := ⟨_, rfl⟩
              rw [hx] at cj HTK hxl
              rw [HTK.out, textsB_append] at hpre
              have HPR := Lib.hid hpre
              have HXL := Lib.hid hxl
              clear hx hcell hb' hpre hxl
              go_wp2_with fail
              have hba : Below wr.heap.size wr (wr.alloc (.cells #[.string ⟨x.toArray⟩] 9)) := (Below.refl _ _).alloc (Nat.le_refl _) _
              refine (HTWR.out.app (L := [x]) (lo := some ⟨wr.heap.size, 0, none⟩) hba HLV2.out HFU2.out HF2.out (by rw [HL2.out]; omega) (.inr ⟨wr.heap.size, 0, rfl, by simp, fun i hi => by
                obtain rfl : i = 0 := by simpa using hi
                rw [Lib.cell_of_heap (heap_alloc_new wr _)]; rfl⟩) (fun _ a ha => by
                obtain rfl := Option.some.inj ha
                exact .inr (Nat.le_refl _)) (fun t ht => by obtain rfl := List.mem_singleton.1 ht; have := HXL.out; omega) (by rw [HL2.out]; have := HPR.out; have := HTB.out; omega) (by omega)).mono ?_
              rintro e w8 ⟨rfl, s3, htw, hlv3, hfu3, hf3, hl3⟩
              rw [← textsB_append, ← HTK.out] at htw hlv3
              rw [HL2.out] at hf3 hl3
              have HTW8 := Lib.hid htw
              have HLV3 := Lib.hid hlv3
              have HFU3 := Shut.mk hfu3
              have HF3 := Lib.hid hf3
              have HL3 := Shut.mk hl3
              clear htw hlv3 hfu3 hf3 hl3 cj hba HTWR
              go_wp2_with fail
              exact ⟨⟨j + 1, by omega, by go_num, s3, HTW8.out, HLV3.out, HFU3.out, HF3.out.mono (by omega), HL3.out⟩, by simp [intOf]; omega⟩
            · obtain rfl : j = T.length := by omega
              have hnw : ¬ ((T.length : Nat) : Int) < ((T.length : Nat) : Int) := by omega
              rw [List.take_length] at HTWR HLV2
              have HRL := Lib.hid (show ∀ r ∈ T, r.length ≤ 250000 from fun r hr => by have := HTL.out r hr; omega)
              have HNN := Lib.hid (show T.length ≤ 9223372036854775807 by omega)
              go_wp2_with fail
              refine (HTWR.out.swap.open HLV1.out HF1.out HRL.out).mono ?_
              rintro e w8 ⟨⟨v8, a8, c8, rfl, hs8⟩, hb8⟩
              have HS8 := Lib.hid hs8
              have HTW8 := Lib.hid (HTWR.out.below hb8)
              clear hs8 hb8 HTWR
              go_wp2_with fail
              refine (HTW8.out.open HLV2.out (HF2.out.mono (by omega)) HRL.out).mono ?_
              rintro e w9 ⟨⟨v9, a9, c9, rfl, hs9⟩, hb9⟩
              have HS9 := Lib.hid hs9
              have HS89 := Lib.hid (HS8.out.below hb9)
              have HTW9 := Lib.hid (HTW8.out.below hb9)
              clear hs9 hb9 HTW8 HS8 HLV2 HLV1
              go_wp2_with fail
              refine (same_any a8 a9 c8 c9 T T w9 HS89.out HS9.out HNN.out).mono ?_
              rintro e w10 ⟨rfl, hb10⟩
              have hTT : decide (T = T) = true := decide_eq_true rfl
              have HS10 := Lib.hid (HS89.out.below hb10)
              have HTW10 := Lib.hid (HTW9.out.below hb10)
              clear hb10 HS89 HS9 HTW9
              go_wp2_with fail
              refine (same_any a8 lo c8 lc T T w10 HS10.out (H.out.below HTW10.out.world.1) HNN.out).mono ?_
              rintro e w11 ⟨rfl, hb11⟩
              have HB11 := Lib.hid (HTW10.out.below hb11).world
              clear hb11 HS10 HTW10
              have HF9 := Lib.hid (fit_new 2100)
              have HLV9 := Lib.hid (live_new 2100 (by decide) (by decide))
              have HLN9 := Shut.mk (newS_len 2100 (by decide))
              have HFU9 := Shut.mk (show (newS ((2100 : Nat) : Int)).fuse = 0 from rfl)
              obtain ⟨s9, hs9⟩ : ∃ s, newS ((2100 : Nat) : Int) = s := ⟨_, rfl⟩
              have HF9' := Lib.hid (show Fit (newS ((2100 : Nat) : Int)) 0 from HF9.out)
              rw [hs9] at HF9' HLV9 HLN9 HFU9
              have H9 := Shut.mk (show newS 2100 = s9 from hs9)
              clear hs9 HF9
              go_wp2_with fail
              refine (dev7_new 2100 w11).mono ?_
              rintro e w12 ⟨⟨vu, O9, rfl, hd, hO⟩, hb12⟩
              rw [H9.out] at hd
              obtain ⟨au, rfl⟩ := hd.ptr
              have HLD := Lib.hid (show LoneD w.heap.size w (.pointer (some au)) s9 [] w12 from ⟨O9, hd, fun b hb => Nat.le_trans HB11.out.2 (hO b hb), Rest.nil _ _, HB11.out.1.trans (hb12.mono HB11.out.2), Nat.le_trans HB11.out.2 hb12.size⟩)
              clear hd hO hb12 HB11
              go_wp2_with fail
              refine (HLD.out.open (R := []) (HF9'.out.mono (by omega)) HLV9.out.off HLV9.out.now (fun r hr => by cases hr)).mono ?_
              rintro e w13 ⟨su, a13, c13, rfl, hs, hb13⟩
              have HSG := Lib.hid hs
              clear hs hb13 HLD
              simp only [List.length_nil]
              obtain ⟨i0, hi, hz0, hz1, hz2⟩ := info_parts Try.infoU8
              have HIF := Lib.hid hi
              have HZ0 := Lib.hid hz0
              have HZ1 := Lib.hid hz1
              have HZ2 := Shut.mk hz2
              clear hi hz0 hz1 hz2
              rcases (by omega : m = 0 ∨ m = 1) with rfl | rfl
              · obtain ⟨N, hN⟩ : ∃ N : Nat, N = 250000 := ⟨_, rfl⟩
                have HNE := Shut.mk (show (250000 : Int) = (N : Int) by omega)
                have HNB := Lib.hid (show N ≤ 250000 by omega)
                have HNP := Lib.hid (show 0 < N by omega)
                clear hN
                go_wp2_with (at_make; refine wpList_make_full _ rfl _ _ 40 rfl w13.heap.size 5 i0 (.int .u8 0) 1 Try.underlying40 HIF.out HZ0.out HZ1.out .i64 .i64 _ _ N rfl rfl HNE.out HNE.out (by rw [HZ2.out]; have := HNB.out; omega) (by unfold maxLen; have := HNB.out; omega) (Nat.le_refl _) ?_)
                intro w14 ho14 hg14
                have hb14 : Below w13.heap.size w13 w14 := (Below.refl w13.heap.size w13).grown hg14 (Nat.le_refl _) (by intro g hg; cases hg)
                obtain ⟨Z, hZl, hconv⟩ := conv_made ho14
                have HZL := Shut.mk hZl
                have HSG14 := Lib.hid (HSG.out.below hb14)
                clear ho14 hg14 hb14 hZl HSG
                go_wp2_with fail
                have hba : Below w14.heap.size w14 (w14.alloc (.cells #[.string ⟨Z.toArray⟩] 9)) := (Below.refl _ _).alloc (Nat.le_refl _) _
                have HSA := Lib.hid (HSG14.out.add (ao := some ⟨w14.heap.size, 0, none⟩) (T := [Z]) hba (.inr ⟨w14.heap.size, 0, rfl, by simp, fun i hi => by
                  obtain rfl : i = 0 := by simpa using hi
                  rw [Lib.cell_of_heap (heap_alloc_new w14 _)]; rfl⟩) (fun _ a ha => by
                  obtain rfl := Option.some.inj ha
                  exact .inr (Nat.le_refl _)))
                clear hba HSG14 hconv
                refine (HSA.out.app (L := [Z]) (lo := some ⟨w14.heap.size, 0, none⟩) (by simp) HLV9.out HF9'.out (by rw [HLN9.out]; omega) (fun t ht => by obtain rfl := List.mem_singleton.1 ht; rw [HZL.out]; exact HNB.out) (by
                  have hz := textB_bound (t := Z) (by rw [HZL.out]; have := HNB.out; omega)
                  rw [HZL.out] at hz
                  have := HNB.out
                  rw [show textsB [] = [] from rfl, List.nil_append, HLN9.out, show textsB [Z] = textB Z by simp [textsB]]
                  omega) (by decide)).mono ?_
                rintro e w15 ⟨E, s10, rfl, hld, _, _, happ⟩
                have HB15 := Lib.hid hld.world.1
                rcases happ with ⟨rfl, _⟩ | ⟨_, hne, _⟩
                · clear hld HSA
                  go_wp2_with fail
                  go_ret
                  exact ⟨rfl, HB15.out⟩
                · exact absurd HFU9.out hne
              · obtain ⟨N, hN⟩ : ∃ N : Nat, N = 250001 := ⟨_, rfl⟩
                have HNE := Shut.mk (show (250001 : Int) = (N : Int) by omega)
                have HNB := Lib.hid (show N ≤ 260000 by omega)
                have HNP := Lib.hid (show 250000 < N by omega)
                clear hN
                go_wp2_with (at_make; refine wpList_make_full _ rfl _ _ 40 rfl w13.heap.size 5 i0 (.int .u8 0) 1 Try.underlying40 HIF.out HZ0.out HZ1.out .i64 .i64 _ _ N rfl rfl HNE.out HNE.out (by rw [HZ2.out]; have := HNB.out; omega) (by unfold maxLen; have := HNB.out; omega) (Nat.le_refl _) ?_)
                intro w14 ho14 hg14
                have hb14 : Below w13.heap.size w13 w14 := (Below.refl w13.heap.size w13).grown hg14 (Nat.le_refl _) (by intro g hg; cases hg)
                obtain ⟨Z, hZl, hconv⟩ := conv_made ho14
                have HZL := Shut.mk hZl
                have HSG14 := Lib.hid (HSG.out.below hb14)
                clear ho14 hg14 hb14 hZl HSG
                go_wp2_with fail
                have hba : Below w14.heap.size w14 (w14.alloc (.cells #[.string ⟨Z.toArray⟩] 9)) := (Below.refl _ _).alloc (Nat.le_refl _) _
                have HSA := Lib.hid (HSG14.out.below hba)
                refine (HSA.out.long (t := Z) (lo := some ⟨w14.heap.size, 0, none⟩) (.inr ⟨w14.heap.size, 0, rfl, by simp, fun i hi => by
                  obtain rfl : i = 0 := by simpa using hi
                  rw [Lib.cell_of_heap (heap_alloc_new w14 _)]; rfl⟩) (by rw [HZL.out]; exact HNP.out) (by rw [HZL.out]; exact HNB.out)).mono ?_
                rintro e w15 ⟨rfl, hb15⟩
                have HB15 := Lib.hid (HSA.out.below hb15).world.1
                clear hb15 hba hconv HSA HSG14
                go_wp2_with fail
                go_ret
                exact ⟨rfl, HB15.out⟩
end segOne
end Go.Proofs.Ythnagnjcbgcnfaa
