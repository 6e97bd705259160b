/-
  The law SegLoses: its walk.
-/
import Derived.Test.YthnagnjcbgcnfaaLosesM
import Derived.Test.YthnagnjcbgcnfaaSame
import Derived.Deep.Cut
import Derived.Deep.CutRange
import Derived.Deep.CutBlock
namespace Go.Proofs.Ythnagnjcbgcnfaa
open Go.RowKit Go.BigFrame

/-- How the loop leaves the disk: it comes to what was answered, or to what was under way besides. -/
def AtEnd (B : Nat) (w0 : World) (vd : Value) (s11 s12 : Value) (w : World) : Prop :=
  ∃ (s : DS) (e : Nat) (R T1 T2 : List (List UInt8)) (so po : Option Addr) (sc pc : Nat), s11 = .slice so T1.length sc ∧ s12 = .slice po T2.length pc ∧ LoneD B w0 vd s [(so, T1), (po, T2)] w ∧ Fit s 100000 ∧ (R = T1 ∨ R = T2) ∧ Comes8 s e (textsB R) ∧ (∀ r ∈ R, r.length ≤ 250000) ∧ T1.length ≤ 4096 ∧ T2.length ≤ 4096
/-- How the loop goes round. -/
def AtLoop (B : Nat) (w0 : World) (vd vs : Value) (L : List Batch) (k : Nat) (s11 s12 : Value) (w : World) : Prop :=
  ∃ (s : DS) (so : Option Addr) (sc : Nat), s11 = .slice so (allT L k).length sc ∧ s12 = .slice so (allT L k).length sc ∧ (so = none → sc = 0) ∧ SegL B w0 vd vs s k (textsB (allT L k)) [(so, allT L k)] w ∧ Live s k (textsB (allT L k)) ∧ Fit s (64 * k) ∧ s.safe.length = 60

namespace segLoses
set_option maxHeartbeats 4000000 in
set_option maxRecDepth 100000 in
theorem walk (w : World) (ao : Option Addr) (L : List Batch) (cap : Nat) (h : BatchesAt ao L w) (hok : ∀ x ∈ L, x.Ok w) (hl : L.length ≤ 140737488351232) (n : Int) (hn : (Lit.int .i64 n).wf = true) (u : Int) (hu : (Lit.int .u64 u).wf = true) :
    Calls Try.prog 3 #[.slice ao L.length cap, .int .i64 n, .int .u64 u] w fun e w' => e = .returned (.bool true) ∧ Below w.heap.size w w' := by
  obtain ⟨keep, rfl, hk⟩ : ∃ keep : Nat, u = keep ∧ keep < 18446744073709551616 := by
    simp only [Lit.wf, Bool.and_eq_true, decide_eq_true_eq] at hu
    have h1 : (0 : Int) ≤ u := hu.1
    have h2 : u ≤ 18446744073709551615 := hu.2
    exact ⟨u.toNat, by omega, by omega⟩
  have H := Lib.hid h
  have HOK := Lib.hid hok
  have HK := Lib.hid hk
  have HN := Lib.hid (show n ≤ 9223372036854775807 by
    simp only [Lit.wf, Bool.and_eq_true, decide_eq_true_eq] at hn
    exact hn.2)
  have HGR := Lib.hid (fun (w' : World) (hb : Below w.heap.size w w') => great8_any ao L cap w' (h.below hb) (fun x hx => ((hok x hx).below hb).rd) hl)
  obtain ⟨G, hG⟩ : ∃ G, great8N L = G := ⟨_, rfl⟩
  rw [hG] at HGR
  have HG := Shut.mk hG
  clear h hok hG hn hk hu
  go_enter Try.func3, Try.ntmps3
  go_wp2_with fail
  refine (alive8_any w).mono ?_
  rintro e w1 ⟨rfl, hb1⟩
  have HB1 := Lib.hid hb1
  clear hb1
  go_wp2_with fail
  refine (HGR.out w1 HB1.out).mono ?_
  rintro e w2 ⟨rfl, hb2⟩
  have HB2 := Lib.hid (HB1.out.trans (hb2.mono HB1.out.size))
  clear hb2 HB1 HGR
  cases G with
  | true =>
    go_wp2_with fail
    go_ret
    exact ⟨rfl, HB2.out⟩
  | false =>
    obtain ⟨g1, g2⟩ := great8_not HG.out
    have HG1 := Lib.hid g1
    have HG2 := Lib.hid g2
    clear g2
    have HF0 := Lib.hid (fit_new 60)
    have HLV := Lib.hid (live_new 60 (by decide) (by decide))
    have HLN := Shut.mk (newS_len 60 (by decide))
    obtain ⟨s0, h0⟩ : ∃ s, newS ((60 : Nat) : Int) = s := ⟨_, rfl⟩
    have HF0' := Lib.hid (show Fit (newS ((60 : Nat) : Int)) 0 from HF0.out)
    rw [h0] at HF0' HLV HLN
    have H0 := Shut.mk (show newS 60 = s0 from h0)
    clear h0 HF0
    go_wp2_with fail
    refine (dev7_new 60 w2).mono ?_
    rintro e w3 ⟨⟨v, O, rfl, hd, hO⟩, hb3⟩
    rw [H0.out] at hd
    obtain ⟨ad, rfl⟩ := hd.ptr
    have HLD := Lib.hid (show LoneD w.heap.size w (.pointer (some ad)) s0 [] w3 from ⟨O, hd, fun b hb => Nat.le_trans HB2.out.size (hO b hb), Rest.nil _ _, HB2.out.trans (hb3.mono HB2.out.size), Nat.le_trans HB2.out.size hb3.size⟩)
    clear hd hO hb3 HB2
    go_wp2_with fail
    refine (HLD.out.open (R := []) (HF0'.out.mono (by omega)) HLV.out.off HLV.out.now (fun r hr => by cases hr)).mono ?_
    rintro e w4 ⟨sa, a0, c0, rfl, hs, hb4⟩
    have HSG := Lib.hid hs
    clear hs hb4 HLD
    simp only [List.length_nil]
    go_wp2_with fail
    refine (HSG.out.arm (HF0'.out.mono (by omega)) n keep HN.out HK.out).mono ?_
    rintro e w5 ⟨rfl, hs⟩
    have HLP := Lib.hid (show AtLoop w.heap.size w (.pointer (some ad)) (.pointer (some sa)) L 0 (.slice none 0 0) (.slice none 0 0) w5 from ⟨armS s0 n keep, none, 0, by rw [allT_zero]; rfl, by rw [allT_zero]; rfl, fun _ => rfl, by
      rw [allT_zero]
      exact hs.sub (Y := []) (fun y hy => by cases hy) |>.add (Below.refl _ _) (.inl rfl) (fun hne => absurd rfl hne), by rw [allT_zero]; exact HLV.out.arm n keep, HF0'.out.arm HN.out HK.out, HLN.out⟩)
    clear hs HSG HLV HF0' HLN H0
    go_upto_block 0 with (fail)
    go_cut [11, 12] from 39 (fun s11 s12 wx => AtEnd w.heap.size w (.pointer (some ad)) s11 s12 wx)
    case first =>
      go_wp2_with fail
      go_loopw [11, 12, 41] (fun s11 s12 i wq => ∃ k : Nat, k ≤ L.length ∧ i = .int .i64 k ∧ AtLoop w.heap.size w (.pointer (some ad)) (.pointer (some sa)) L k s11 s12 wq) (fun _ _ i _ => L.length - (intOf i).toNat)
      case atStart => exact ⟨0, by omega, rfl, HLP.out⟩
      case round =>
        clear HLP
        obtain ⟨k, hk, rfl, s, so, sc, rfl, rfl, hnil, hsg, hlv, hf, hsl⟩ := hrel
        have HSG := Lib.hid hsg
        have HLV := Lib.hid hlv
        have HF := Lib.hid hf
        have HSL := Shut.mk hsl
        have HNI := Lib.hid hnil
        have hfit := allT_fits HG2.out hk
        have HFT := Lib.hid hfit
        have HW := Lib.hid hsg.world
        clear hsg hlv hf hsl hnil hfit
        by_cases hlk : k < L.length
        · have hlk2 : (k : Int) < (L.length : Int) := by omega
          obtain ⟨b, o, rfl, hbb, hr⟩ := H.out.some hlk
          have HR := Lib.hid (range_below hr HW.out.1 hbb)
          have hx := HOK.out _ (List.getElem_mem hlk)
          have hN := allT_next hlk
          have hF2 := allT_fits HG2.out (show k + 1 ≤ L.length by omega)
          obtain ⟨x, hxe⟩ : ∃ x, L[k] = x := ⟨_, rfl⟩
          rw [hxe] at hr hx hN HR
          have HN := Shut.mk hN
          have HF2 := Lib.hid hF2
          have HX := Lib.hid hx
          have HV1 := Lib.hid (batchV_one x)
          have HI4 := Lib.hid (show (Try.prog.info? 35).map (·.size) = some (batchV x).toList.length from Try.infoCall8)
          have HI5 := Lib.hid (show (Try.prog.info? 35).map (·.size) = some (batchV x).size from Try.infoCall8)
          have HBV := Shut.mk (show (batchV x)[1]? = some (.slice x.lo x.list.length x.lc) from rfl)
          have HZN := Lib.hid (show Cells wr.heap.size 35 (batchV zeroBatch) (wr.alloc (.cells (batchV zeroBatch) 35)) from heap_alloc_new wr _)
          have HZS := Lib.hid (show (batchV zeroBatch).size = (batchV x).size from rfl)
          obtain ⟨V, hV⟩ : ∃ V, batchV x = V := ⟨_, rfl⟩
          rw [hV] at HR HV1 HI4 HI5 HBV HZS
          have HXS := Lib.hid (HX.out.strs.below HW.out.1)
          have HXL := Lib.hid (show ∀ a, x.lo = some a → x.list ≠ [] → a.block < w.heap.size from fun a ha hne => HX.out.strs.lt hne ha)
          have HXN := Lib.hid HX.out.none
          obtain ⟨T, hT⟩ : ∃ T, allT L k = T := ⟨_, rfl⟩
          obtain ⟨N, hNl⟩ : ∃ N, x.list = N := ⟨_, rfl⟩
          obtain ⟨lo, hlo⟩ : ∃ lo, x.lo = lo := ⟨_, rfl⟩
          obtain ⟨lc, hlc⟩ : ∃ lc, x.lc = lc := ⟨_, rfl⟩
          rw [hT, hNl] at HN
          rw [hNl, hlo, hlc] at HBV
          rw [hNl, hlo] at HXS HXL
          rw [hlo, hlc] at HXN
          rw [HN.out] at HF2
          rw [hT] at HSG HLV HFT ⊢
          have HTE := Shut.mk hT
          clear hr hbb hx hxe hV hT hNl hlo hlc HX hN hF2
          go_wp2_with (first
            | (refine wpList_load_mid rfl 35 _ rfl b (o + k * 4) rfl V.toList _ HR.out Try.underlying35 rfl HI4.out ?_)
            | (refine wpList_store_cells rfl 35 _ _ rfl rfl wr.heap.size _ V 35 rfl rfl HZN.out HI5.out HZS.out HV1.out ?_))
          intro w6 hc6 hb6
          have hb66 : Below wr.heap.size wr w6 := But.toBelow ((Below.refl _ _).alloc (Nat.le_refl _) (.cells (batchV zeroBatch) 35)) hb6.out (Nat.le_refl _) (by simp)
          have HSG6 := Lib.hid (HSG.out.below hb66)
          have HXS6 := Lib.hid (HXS.out.below hb66)
          have HC6 := Lib.hid (show ∀ w', Below w6.heap.size w6 w' → w'.cell? ⟨wr.heap.size, 1, none⟩ = some (.slice lo N.length lc) from fun w' hb => by
            have hlt : wr.heap.size < w6.heap.size := hc6.out.lt
            rw [hb.cell (p := ⟨wr.heap.size, 1, none⟩) hlt, hc6.out.at 1, HBV.out])
          have HFA := Lib.hid (show ∀ w', (Instr.fieldAt 35 (.pointer (some ⟨wr.heap.size, 0, none⟩)) 1).run Try.prog w' = .ok (.pointer (some ⟨wr.heap.size, 1, none⟩)) w' from fun w' => by go_simp)
          obtain ⟨gc, hgc⟩ : ∃ gc, wr.heap.size = gc := ⟨_, rfl⟩
          rw [hgc] at HC6 HFA ⊢
          clear hc6 hb6 hb66 HR HZN HSG HXS hgc
          go_upto_region 14 with (fail)
          have HBN := Lib.hid (show ∀ w : World, (Instr.buildSlice 29 0 #[]).run Try.prog w = .ok (.slice (some ⟨w.heap.size, 0, none⟩) 0 0) (w.alloc (.cells #[] 9)) from fun w => by go_simp)
          have HST6 := Lib.hid (HSG6.out.row (x := (so, T)) (by simp))
          have HNL := Lib.hid (show (strs T).length + N.length ≤ 1000000 by
            have := HF2.out.2.2
            rw [List.length_append] at this
            rw [strs_length]
            omega)
          have HTL := Lib.hid (show ([] : List Value).length + T.length ≤ 1000000 by have := HFT.out.2.2; simp only [List.length_nil]; omega)
          refine wp_region_free 6 (fun q V w' => Val q V 1 (.slice so T.length sc) ∧ Val q V 3 (.pointer (some ⟨gc, 1, none⟩)) ∧ Val q V 4 (.slice lo N.length lc) ∧ OwnAt q V w6.heap.size 0 2 [] w' ∧ OwnAt q V w6.heap.size 2 5 (strs T) w' ∧ OwnIn q V w6.heap.size 5 (strs T ++ strs N) w' ∧ Late q 0 2 ∧ Late q 2 5 ∧ Below w6.heap.size w6 w') (fun | 0 => u45 | 1 => u46 | 2 => u47 | 3 => u48 | 4 => u49 | 5 => u50 | _ => undef) (by kernel_rfl) (by kernel_rfl) (by kernel_rfl) (by simp only [List.take_succ_cons, List.take_zero, putAll, Act.put, List.setIfInBounds_toArray, List.set_cons_zero, List.set_cons_succ]) ⟨Val.none, Val.none, Val.none, OwnAt.none, OwnAt.none, OwnIn.none, Late.none, Late.none, (Below.refl _ _).drew⟩ ?_ ?_
          · simp only [List.take_succ_cons, List.take_zero, putAll, Nat.zero_add, Nat.reduceAdd, Act.put, List.setIfInBounds_toArray, List.set_cons_zero, List.set_cons_succ]
            refine FreeSteps.cons ?_ (FreeSteps.cons ?_ (FreeSteps.cons ?_ (FreeSteps.cons ?_ (FreeSteps.cons ?_ (FreeSteps.cons ?_ FreeSteps.nil)))))
            all_goals (refine FreeStep.fresh rfl ?_; rintro q V wq hr hu ⟨h1, h3, h4, r0, r2, r5, l02, l25, hb⟩ K hK)
            · have hba : Below wq.heap.size wq (wq.alloc (.cells #[] 9)) := (Below.refl _ _).alloc (Nat.le_refl _) _
              have hq2 := l02.not hu
              have hq5 := l25.not hq2
              exact op_build_none 29 9 rfl HBN.out (hK _ _ ⟨h1.ne (by decide), h3.ne (by decide), h4.ne (by decide), .same (World.ownsRow_lit (base := w6.heap.size) (e := 9) (size := 1) wq #[] 0 hb.size (by unfold maxLen; omega) rfl), .early hq2 (by decide), .early hq5 (by decide), l02.ne (by decide), l25.ne (by decide), hb.trans (hba.mono hb.size)⟩)
            · exact op_move (.tmp 11) rfl _ rfl (hK _ _ ⟨.same, h3.ne (by decide), h4.ne (by decide), r0.ne (by decide) (by decide) (Below.refl _ _), r2.ne (by decide) (by decide) (Below.refl _ _), r5.ne (by decide) (Below.refl _ _), l02.ne (by decide), l25.ne (by decide), hb⟩)
            · have q0 := hr { on := 0, ground := .data } (by simp) rfl
              have q1 := hr { on := 1, ground := .data } (by simp) rfl
              have hq5 := l25.not hu
              refine op_append_strs (.tmp 45) (.tmp 46) 29 9 rfl 16 (by decide) Try.underlying29 Try.infoString w6.heap.size (V 0) [] T so sc rfl (r0 q0 hu) (h1 q1) (HST6.out.below hb) HNI.out HTL.out hb.size ?_
              intro v' w' hrow hbw
              rw [List.nil_append] at hrow
              exact hK _ _ ⟨h1.ne (by decide), h3.ne (by decide), h4.ne (by decide), .gone, .same hrow, .early hq5 (by decide), .same q0, l25.ne (by decide), hb.trans hbw⟩
            · exact op_fieldAt 35 (.tmp 14) 1 rfl _ _ rfl HFA.out (hK _ _ ⟨h1.ne (by decide), .same, h4.ne (by decide), r0.ne (by decide) (by decide) (Below.refl _ _), r2.ne (by decide) (by decide) (Below.refl _ _), r5.ne (by decide) (Below.refl _ _), l02.ne (by decide), l25.ne (by decide), hb⟩)
            · exact op_load_cell 29 (.tmp 48) rfl _ _ (h3 (hr { on := 3, ground := .data } (by simp) rfl)) (HC6.out wq hb) Try.isAgg29 (hK _ _ ⟨h1.ne (by decide), h3.ne (by decide), .same, r0.ne (by decide) (by decide) (Below.refl _ _), r2.ne (by decide) (by decide) (Below.refl _ _), r5.ne (by decide) (Below.refl _ _), l02.ne (by decide), l25.ne (by decide), hb⟩)
            · have q2 := hr { on := 2, ground := .data } (by simp) rfl
              have q4 := hr { on := 4, ground := .data } (by simp) rfl
              refine op_append_strs (.tmp 47) (.tmp 49) 29 9 rfl 16 (by decide) Try.underlying29 Try.infoString w6.heap.size (V 2) (strs T) N lo lc rfl (r2 q2 hu) (h4 q4) (HXS6.out.below hb) HXN.out HNL.out hb.size ?_
              intro v' w' hrow hbw
              have q0 := l02 q2
              exact hK _ _ ⟨h1.ne (by decide), h3.ne (by decide), h4.ne (by decide), .past q2, .gone, .same hrow, l02.ne (by decide), .same q2, hb.trans hbw⟩
          rintro q V w7 hall ⟨h1, h3, h4, r0, r2, r5, l02, l25, hb⟩
          have v1 := h1 (hall 1 (by decide))
          have v3 := h3 (hall 3 (by decide))
          have v4 := h4 (hall 4 (by decide))
          have hrow := r5 (hall 5 (by decide))
          obtain ⟨x0, v0⟩ : ∃ v, V 0 = v := ⟨_, rfl⟩
          obtain ⟨x2, v2⟩ : ∃ v, V 2 = v := ⟨_, rfl⟩
          have hst : strs T ++ strs N = strs (T ++ N) := by simp [strs]
          rw [hst] at hrow
          obtain ⟨po, pc, v5, hps, hpn, hpb⟩ := strs_own hrow
          obtain ⟨TN, hTN⟩ : ∃ TN, T ++ N = TN := ⟨_, rfl⟩
          rw [hTN] at v5 hps HF2 HN
          simp only [List.take_succ_cons, List.take_zero, List.drop_succ_cons, List.drop_zero, putAll, Nat.zero_add, Nat.reduceAdd, v0, v1, v2, v3, v4, v5, Act.put, List.setIfInBounds_toArray, List.set_cons_zero, List.set_cons_succ]
          have HSG7 := Lib.hid ((HSG6.out.add hb hps (fun _ a ha => .inr (hpb a ha))).add (Below.refl _ _) (HXS6.out.below hb) (fun hne a ha => .inl (HXL.out a ha hne)))
          have HPN := Lib.hid hpn
          have c7 := HC6.out w7 hb
          clear h1 h3 h4 r0 r2 r5 l02 l25 hb hrow v0 v1 v2 v3 v4 v5 hps hpn hpb hst hall HSG6 HXS6 HC6 HFA HBN HST6 HNL HTL
          have HTA := Shut.mk (show textsB T ++ textsB N = textsB TN by rw [← hTN]; exact (textsB_append T N).symm)
          have HNT := Lib.hid (show ∀ t ∈ N, t.length ≤ 250000 from fun t ht => by
            have := HF2.out.2.1 t (by rw [← hTN]; exact List.mem_append_right _ ht)
            omega)
          clear hTN
          go_wp2_with fail
          refine (HSG7.out.app (L := N) (lo := lo) (by simp) HLV.out HF.out (by rw [HSL.out]; have := HG1.out; omega) HNT.out (by rw [HTA.out, HSL.out]; exact HF2.out.1) (by have := HG1.out; omega)).mono ?_
          rintro y w8 ⟨E, s', rfl, hld, hf', hl', happ⟩
          rw [HTA.out] at happ
          rw [HSL.out] at hf' hl'
          have HLD := Lib.hid hld
          have HF' := Lib.hid hf'
          have HL' := Shut.mk hl'
          clear hld hf' hl' c7 HSG7
          rcases happ with ⟨rfl, hlv, hsg, _⟩ | ⟨rfl, _, hdn⟩
          · have HLV' := Lib.hid hlv
            have HSG' := Lib.hid hsg
            clear hlv hsg HLD
            go_wp2_with fail
            refine ⟨⟨k + 1, by omega, by go_num, s', po, pc, by rw [HN.out], by rw [HN.out], HPN.out, ?_, by rw [HN.out]; exact HLV'.out, HF'.out.mono (by omega), HL'.out⟩, by simp [intOf]; omega⟩
            rw [HN.out]
            exact HSG'.out.sub (by simp)
          · have HDN := Lib.hid hdn
            clear hdn
            go_wp2_with fail
            go_meet
            case rel =>
              have h1 := HFT.out
              have h2 := HF2.out
              have hk60 := HG1.out
              rcases HDN.out with hd | hd
              · exact ⟨s', k, T, T, TN, so, po, sc, pc, rfl, rfl, HLD.out.sub (by simp), HF'.out.mono (by omega), .inl rfl, hd.comes, fun r hr => by have := h1.2.1 r hr; omega, h1.2.2, h2.2.2⟩
              · exact ⟨s', k + 1, TN, T, TN, so, po, sc, pc, rfl, rfl, HLD.out.sub (by simp), HF'.out.mono (by omega), .inr rfl, hd.comes, fun r hr => by have := h2.2.1 r hr; omega, h1.2.2, h2.2.2⟩
        · obtain rfl : k = L.length := by omega
          have hnw : ¬ ((L.length : Nat) : Int) < ((L.length : Nat) : Int) := by omega
          obtain ⟨T, hT⟩ : ∃ T, allT L L.length = T := ⟨_, rfl⟩
          rw [hT] at HSG HLV HFT ⊢
          clear hT
          go_wp2_with fail
          go_meet
          case rel =>
            have h1 := HFT.out
            have hk60 := HG1.out
            exact ⟨s, L.length, T, T, T, so, so, sc, sc, rfl, rfl, HSG.out.lone.sub (by simp), HF.out.mono (by omega), .inl rfl, HLV.out.comes, fun r hr => by have := h1.2.1 r hr; omega, h1.2.2, h1.2.2⟩
    case rest =>
      obtain ⟨s, e, R, T1, T2, so, po, sc, pc, rfl, rfl, hld, hf, hR, hc, hRl, h1, h2⟩ := hcut
      have HLD := Lib.hid hld
      have HFS := Lib.hid hf
      have HF2 := Lib.hid ((hf.gone keep).on.mono (show 100000 ≤ 900000 by omega))
      have HRL := Lib.hid hRl
      obtain ⟨c1, c2⟩ := hc keep
      have HC1 := Shut.mk c1
      have HC2 := Lib.hid c2
      have HR1 := Lib.hid (show R.length ≤ 9223372036854775807 by rcases hR with rfl | rfl <;> omega)
      clear hld hf hRl hc c1 c2 h1 h2 HLP
      go_wp2_with fail
      refine (HLD.out.off (HFS.out.mono (by omega)) keep HK.out).mono ?_
      rintro x w6 ⟨rfl, hl6⟩
      have HL6 := Lib.hid hl6
      clear hl6 HLD
      go_wp2_with fail
      refine (HL6.out.on ((HFS.out.gone keep).mono (by omega))).mono ?_
      rintro x w7 ⟨rfl, hl7⟩
      obtain ⟨s2, hs2⟩ : ∃ s2, onS (goneS s keep) = s2 := ⟨_, rfl⟩
      rw [hs2] at hl7 HF2 HC1 HC2
      have HL7 := Lib.hid hl7
      clear hl7 HL6 hs2 HFS
      go_wp2_with fail
      refine (HL7.out.open HF2.out HC1.out HC2.out HRL.out).mono ?_
      rintro x w8 ⟨sa1, a1, k1, rfl, hs8, hb8⟩
      have HL8 := Lib.hid hs8.lone
      clear hs8 hb8 HL7
      go_wp2_with fail
      refine (HL8.out.open HF2.out HC1.out HC2.out HRL.out).mono ?_
      rintro x w9 ⟨sa2, a2, k2, rfl, hs9, hb9⟩
      have HL9 := Lib.hid hs9.lone
      clear hs9 hb9 HL8
      go_wp2_with fail
      refine (same_any a1 a2 k1 k2 R R w9 (HL9.out.row (x := (a1, R)) (by simp)) (HL9.out.row (x := (a2, R)) (by simp)) HR1.out).mono ?_
      rintro x w10 ⟨rfl, hb10⟩
      have HL10 := Lib.hid (HL9.out.below hb10)
      clear hb10 HL9
      have hRR : decide (R = R) = true := decide_eq_true rfl
      by_cases hR1 : R = T1
      · subst hR1
        go_wp2_with fail
        refine (same_any a1 so k1 sc R R w10 (HL10.out.row (x := (a1, R)) (by simp)) (HL10.out.row (x := (so, R)) (by simp)) HR1.out).mono ?_
        rintro x w11 ⟨rfl, hb11⟩
        have HB11 := Lib.hid (HL10.out.below hb11).world.1
        clear hb11 HL10
        go_wp2_with fail
        go_ret
        exact ⟨rfl, HB11.out⟩
      · have hR2 : R = T2 := hR.resolve_left hR1
        subst hR2
        have hd : decide (R = T1) = false := decide_eq_false hR1
        clear hR1
        go_wp2_with fail
        refine (same_any a1 so k1 sc R T1 w10 (HL10.out.row (x := (a1, R)) (by simp)) (HL10.out.row (x := (so, T1)) (by simp)) HR1.out).mono ?_
        rintro x w11 ⟨rfl, hb11⟩
        have HL11 := Lib.hid (HL10.out.below hb11)
        clear hb11 HL10
        go_wp2_with fail
        refine (same_any a1 po k1 pc R R w11 (HL11.out.row (x := (a1, R)) (by simp)) (HL11.out.row (x := (po, R)) (by simp)) HR1.out).mono ?_
        rintro x w12 ⟨rfl, hb12⟩
        have HB12 := Lib.hid (HL11.out.below hb12).world.1
        clear hb12 HL11
        go_wp2_with fail
        go_ret
        exact ⟨rfl, HB12.out⟩
end segLoses
end Go.Proofs.Ythnagnjcbgcnfaa
