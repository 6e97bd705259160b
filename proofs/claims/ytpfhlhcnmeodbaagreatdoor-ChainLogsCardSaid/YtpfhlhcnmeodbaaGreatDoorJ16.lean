/-
  Joined: The walk of the law ChainLogs.; The law ChainLogs: for every input it answers true, and its arguments read as they did. Condition: the round constants' table lies as the program's text lays it (the card ties it).
-/
import Derived.Deep.Cut
import Derived.Deep.CutRange
import Derived.Test.YtpfhlhcnmeodbaaGreatDoorJ05
import Derived.Test.YtpfhlhcnmeodbaaGreatDoorJ08
import Derived.Test.YtpfhlhcnmeodbaaGreatDoorJ11
import Derived.Test.YtpfhlhcnmeodbaaGreatDoorJ15
namespace Go.Proofs.YtpfhlhcnmeodbaaGreatDoor.chainLogs
open Go.RowKit Go.BigFrame Go.Proofs.YtpfhlhcnmeodbaaGreatDoor
theorem sum_at (n m : Nat) (h1 : n ≤ 300) (h2 : m ≤ 300) (w : World) : (binOp .add 3 (.int .i64 (n : Int)) (.int .i64 (m : Int))).run Tryz.prog w = .ok (.int .i64 ((n + m : Nat) : Int)) w := by
  have h4 : IntKind.i64.wrap ((n : Int) + (m : Int)) = (n : Int) + (m : Int) := by
    simp [IntKind.wrap, IntKind.bits, IntKind.signed]
    omega
  have h5 : ((n + m : Nat) : Int) = (n : Int) + (m : Int) := by omega
  rw [h5]
  go_simp
theorem gtr_at (n m : Nat) (w : World) : (binOp .gtr 3 (.int .i64 (n : Int)) (.int .i64 (m : Int))).run Tryz.prog w = .ok (.bool (decide (m < n))) w := by
  by_cases h : m < n
  · have h1 : (m : Int) < (n : Int) := by omega
    rw [decide_eq_true h]
    go_simp
  · have h1 : ¬ (m : Int) < (n : Int) := by omega
    rw [decide_eq_false h]
    go_simp
theorem diff_at (n m : Nat) (h1 : m ≤ n) (h2 : n ≤ 300) (w : World) : (binOp .sub 3 (.int .i64 (n : Int)) (.int .i64 (m : Int))).run Tryz.prog w = .ok (.int .i64 ((n - m : Nat) : Int)) w := by
  obtain ⟨k, rfl⟩ : ∃ k, n = k + m := ⟨n - m, by omega⟩
  rw [Nat.add_sub_cancel]
  have h5 : ((k + m : Nat) : Int) - (m : Int) = (k : Int) := by omega
  have h4 : IntKind.i64.wrap (k : Int) = (k : Int) := by
    simp [IntKind.wrap, IntKind.bits, IntKind.signed]
    omega
  go_simp
theorem neq_same_int (n : Int) (w : World) : (binOp .neq 3 (.int .i64 n) (.int .i64 n)).run Tryz.prog w = .ok (.bool false) w := by
  go_simp
theorem slice_nodes (g : Nat) (w : World) : (Instr.sliceAt 32 (.pointer (some ⟨g, 0, none⟩)) none none none).run Tryz.prog w = .ok (.slice (some ⟨g, 0, none⟩) 5 5) w := by kernel_rfl
theorem index_nodes (g d : Nat) (hd : d < 5) (w : World) : (Instr.indexAt 32 (.pointer (some ⟨g, 0, none⟩)) (.int .i64 (d : Int))).run Tryz.prog w = .ok (.pointer (some ⟨g, d * 17, none⟩)) w := by
  match d, hd with
  | 0, _ => go_simp
  | 1, _ => go_simp
  | 2, _ => go_simp
  | 3, _ => go_simp
  | 4, _ => go_simp
theorem ents_lt {ao : Option Addr} {M : List EntN} {w : World} (h : EntsAt ao M w) (hne : M ≠ []) {a : Addr} (ha : ao = some a) : a.block < w.heap.size := by
  rcases h with h1 | ⟨b, o, h1, h2, _⟩
  · exact absurd (List.map_eq_nil_iff.1 h1) hne
  · rw [ha] at h1
    cases h1
    exact h2
theorem nodes_lt {gn d : Nat} {x : NodeN} {w : World} (h : NodesAt (some ⟨gn, 0, none⟩) (nodes5 d x) w) : gn < w.heap.size := by
  rcases h with h1 | ⟨b, o, h1, h2, _⟩
  · have := congrArg List.length h1
    simp [nodes5] at this
  · cases h1
    exact h2
theorem lit_ents {B : Nat} (w : World) (hB : B ≤ w.heap.size) : OwnE15 B (.slice (some ⟨w.heap.size, 0, none⟩) 0 0) [] (w.alloc (.cells #[] 54)) :=
  ⟨⟨rfl, .inr ⟨w.heap.size, 0, #[], rfl, hB, heap_alloc_new w _, Nat.le_refl _, by unfold maxLen; omega, rfl, rfl⟩⟩, fun x hx => by cases hx⟩
theorem field_log (g : Nat) (w : World) : (Instr.fieldAt 37 (.pointer (some ⟨g, 0, none⟩)) 3).run Tryz.prog w = .ok (.pointer (some ⟨g, 3, none⟩)) w := by go_simp
theorem field_call (g : Nat) (w : World) : (Instr.fieldAt 39 (.pointer (some ⟨g, 0, none⟩)) 1).run Tryz.prog w = .ok (.pointer (some ⟨g, 1, none⟩)) w := by go_simp
theorem ents_nil {B : Nat} {ao : Option Addr} {n c : Nat} {L : List EntN} {w : World} (h : OwnE15 B (.slice ao n c) L w) : ao = none → c = 0 := by
  rintro rfl
  rcases h.1.2 with ⟨h1, _⟩ | ⟨g, cap, cur, h1, _⟩
  · cases h1
    rfl
  · cases h1
theorem eat_off {la : Option Addr} {E : List (List Nat)} {g : Nat} {nd : Int} {s : ByteArray} {l1 m1 : Option Addr} {l2 l3 m2 m3 : Nat} {w : World} (h : EAt la E w) (hn : 0 < E.length) (hE : Elems E) (hc : Cells g 37 #[.int .i64 nd, .string s, .slice l1 l2 l3, .slice m1 m2 m3] w) {a : Addr} (ha : la = some a) (he : a.block = g) : False := by
  rcases h with h | ⟨b, o, h1, _, h3⟩
  · rw [h] at hn
    simp at hn
  · rw [h1] at ha
    cases ha
    have he : b = g := he
    subst he
    have hl := (hE.getD hn).1
    obtain ⟨y, ys, hy⟩ : ∃ y ys, E.getD 0 [] = y :: ys := by
      cases hh : E.getD 0 [] with
      | nil => rw [hh] at hl; simp at hl
      | cons y ys => exact ⟨y, ys, rfl⟩
    have q := h3 0 hn 0 (.int .u8 (y : Int)) (by rw [hy]; rfl)
    rw [hc.at] at q
    rcases o with _ | _ | _ | _ | o <;> simp at q
theorem appL_len {h : Nat} {L M : List EntN} (hl : L.length ≤ 2 ^ h) : (appL h L M).length ≤ 2 ^ h := by
  unfold appL
  by_cases e : appE h L M = 0
  · rw [if_pos e, List.length_append]
    exact (appE_zero e).2
  · rw [if_neg e]
    exact hl
theorem appL_all {h : Nat} {L M : List EntN} (hL : AllG L) (hM : ∀ x ∈ M, x.Len ∧ x.seq < 9223372036854775808) : AllG (appL h L M) := by
  unfold appL
  by_cases e : appE h L M = 0
  · rw [if_pos e]
    intro x hx
    rcases List.mem_append.1 hx with hx | hx
    · exact hL x hx
    · exact ⟨(appE_zero e).1 x hx, hM x hx⟩
  · rw [if_neg e]
    exact hL
set_option maxHeartbeats 16000000 in
set_option maxRecDepth 100000 in
theorem walk (w : World) (hk : KAt w) (nd : Int) (wn : (Lit.int .i64 nd).wf = true) (seed : List UInt8) (_hs : seed.length ≤ 140737488351232) (h : Int) (wh : (Lit.int .i64 h).wf = true) (ao : Option Addr) (S : List CallG) (cs : Nat) (hat : RAt 4 ao (S.map callL) w) (hS : ∀ x ∈ S, x.In w) (hl : S.length ≤ 140737488351232) :
    Calls Tryz.prog 3 #[.int .i64 nd, .string ⟨seed.toArray⟩, .int .i64 h, .slice ao S.length cs] w fun e w' => e = .returned (.bool true) ∧ Below w.heap.size w w' := by
  have HK := Lib.hid hk
  have HAT := Lib.hid hat
  have HSS := Lib.hid hS
  have HBW0 := Lib.hid hk.lt
  obtain ⟨ns, hns⟩ : ∃ n, S.length = n := ⟨_, rfl⟩
  have HN := Shut.mk hns
  rw [hns] at hl ⊢
  clear hk hat hS hns
  go_enter Tryz.func3, Tryz.ntmps3
  go_wp2_with fail
  refine (alive16_any w HK.out).mono ?_
  rintro e w1 ⟨rfl, hb⟩
  have HB1 := Lib.hid hb
  clear hb
  by_cases c1 : nd < 0
  · go_wp2_with fail
    go_ret
    exact ⟨rfl, HB1.out⟩
  by_cases c2 : 4 < nd
  · go_wp2_with fail
    go_ret
    exact ⟨rfl, HB1.out⟩
  by_cases c3 : (64 : Int) < seed.length
  · go_wp2_with fail
    go_ret
    exact ⟨rfl, HB1.out⟩
  by_cases c4 : h < 1
  · go_wp2_with fail
    go_ret
    exact ⟨rfl, HB1.out⟩
  by_cases c5 : 2 < h
  · go_wp2_with fail
    go_ret
    exact ⟨rfl, HB1.out⟩
  by_cases c6 : (12 : Int) < ns
  · go_wp2_with fail
    go_ret
    exact ⟨rfl, HB1.out⟩
  obtain ⟨d, rfl⟩ := Int.eq_ofNat_of_zero_le (show 0 ≤ nd by omega)
  obtain ⟨hh, rfl⟩ := Int.eq_ofNat_of_zero_le (show 0 ≤ h by omega)
  have H3 := Lib.hid (show d < 5 ∧ seed.length ≤ 64 ∧ 1 ≤ hh ∧ hh ≤ 2 ∧ ns ≤ 12 by omega)
  go_wp2_with fail
  refine (logs16_any d seed hh w1 (HK.out.below HB1.out) (by omega) (by omega) H3.out.2.1 H3.out.2.2.1 (Nat.le_trans H3.out.2.2.2.1 (by decide))).mono ?_
  rintro e w2 ⟨vd, g, rfl, hp⟩
  obtain ⟨av, rfl⟩ := hp.ptr
  obtain ⟨N, O, R, hld, hrl, hdis, hN, hRN, hb2⟩ := hp
  have HLD := Lib.hid hld
  have HRL := Lib.hid hrl
  have HDIS := Lib.hid hdis
  have HNN := Lib.hid (Nat.le_trans HB1.out.size hN)
  have HRN := Lib.hid hRN
  have HB2 := Lib.hid (HB1.out.trans (hb2.mono HB1.out.size))
  clear hld hrl hdis hN hRN hb2 HB1
  have HZ5 := Lib.hid (show (Tryz.prog.info? 32).bind (·.zero) = some (.agg ((List.replicate 5 (nodL zeroNode)).flatten).toArray) by kernel_rfl)
  obtain ⟨la, lc, lv, hRR, hcg, hea, _⟩ := HRL.out
  have c2g : w2.cell? ⟨g, 2, none⟩ = some (.slice la (2 ^ hh : Nat) lc) := hcg.at 2
  have HEA := Lib.hid hea
  have hP2 : 2 ^ hh ≤ 4 := by
    have h1 := H3.out.2.2.1
    have h2 := H3.out.2.2.2.1
    have : hh = 1 ∨ hh = 2 := by omega
    rcases this with rfl | rfl <;> decide
  have HP24 := Lib.hid hP2
  obtain ⟨P2, hpp⟩ : ∃ p, (2 ^ hh : Nat) = p := ⟨_, rfl⟩
  have HPP := Shut.mk hpp
  have hll : (leavesN seed (2 ^ hh)).length = 2 ^ hh := leavesN_len _ _
  have HROOT := Lib.hid (fun w' (b : Below w2.heap.size w2 w') => show Calls Tryz.prog 6 #[.slice la P2 lc] w' fun e w'' => e = .returned (.agg (nums .u8 (rootK seed hh)).toArray) ∧ Below w'.heap.size w' w'' from by
    have q := ref_root6 (leavesN seed (2 ^ hh)) hh la lc w' (leavesN_ok _ _) (HEA.out.below b) hll (Nat.le_trans H3.out.2.2.2.1 (by decide))
    rw [hll] at q
    rw [← hpp]
    exact q)
  rw [hpp] at c2g
  clear hRR hcg hea hP2 hpp hll
  go_upto_region 9 with (refine wpList_alloc_of rfl 32 rfl _ HZ5.out ?_)
  simp only [Act.put, List.setIfInBounds_toArray, List.set_cons_zero, List.set_cons_succ]
  obtain ⟨w3, hw3⟩ : ∃ x, x = w2.alloc (.cells ((List.replicate 5 (nodL zeroNode)).flatten).toArray 32) := ⟨_, rfl⟩
  rw [← hw3]
  have hb3 : Below w2.heap.size w2 w3 := by rw [hw3]; exact (Below.refl _ _).alloc (Nat.le_refl _) _
  have HC3 := Lib.hid (show Cells w2.heap.size 32 ((List.replicate 5 (nodL zeroNode)).flatten).toArray w3 by rw [hw3]; exact heap_alloc_new w2 _)
  have HB23 := Lib.hid hb3
  have HB3 := Lib.hid (HB2.out.trans (hb3.mono HB2.out.size))
  have c2g3 : w3.cell? ⟨g, 2, none⟩ = some (.slice la P2 lc) := by
    obtain ⟨_, _, _, _, q, _⟩ := HRL.out
    exact (hb3.cell (p := ⟨g, 2, none⟩) q.lt).trans c2g
  obtain ⟨gn, hgn⟩ : ∃ z, z = w2.heap.size := ⟨_, rfl⟩
  have HGN := Shut.mk hgn
  rw [← hgn] at HC3 ⊢
  clear hw3 hb3 hgn c2g HB2
  go_wp2_with fail
  refine (HROOT.out w3 HB23.out).mono ?_
  rintro e w4 ⟨rfl, hb4⟩
  have HC4 := Lib.hid (HC3.out.below hb4)
  have HB24 := Lib.hid (HB23.out.trans (hb4.mono HB23.out.size))
  have HB4 := Lib.hid (HB3.out.trans (hb4.mono HB3.out.size))
  have HRO := Lib.hid (rootK_ok seed hh)
  obtain ⟨RT, hRT⟩ : ∃ r, rootK seed hh = r := ⟨_, rfl⟩
  have HRTE := Shut.mk hRT
  rw [hRT] at HRO ⊢
  clear hb4 HC3 HB23 HB3 c2g3 hRT
  have HIX := Lib.hid (index_nodes gn d H3.out.1)
  have hd17 : d < 5 := H3.out.1
  have HNS := Lib.hid (show (nodeV RT (hh : Int)).size = 17 by rw [nodV_eq ⟨RT, hh⟩, List.size_toArray, nodL_len ⟨⟨HRO.out.1, HRO.out.2⟩, by show (-9223372036854775808 : Int) ≤ hh; omega, by show (hh : Int) ≤ 9223372036854775807; omega⟩])
  have HTH := Lib.hid (show w4.there gn (d * 17) (nodeV RT (hh : Int)).size by
    rw [HNS.out]
    refine Cells.there HC4.out ?_
    rw [List.size_toArray, flat_len (K := 17) (fun x hx => by rw [List.eq_of_mem_replicate hx]; exact nodL_len zeroNode_ok), List.length_replicate]
    omega)
  have HTY := Lib.hid (show (Tryz.prog.info? 31).map (·.size) = some (nodeV RT (hh : Int)).size by rw [HNS.out]; exact Tryz.sizeNo)
  have HONE := Lib.hid (show (nodeV RT (hh : Int)).all (·.oneCell') = true from all_oneCell_toArray (fun u hu => by
    rcases List.mem_append.1 hu with hu | hu
    · exact nums_one _ _ u hu
    · obtain rfl := List.mem_singleton.1 hu; rfl))
  go_wp2_with (first
    | (refine wpList_build_node rfl _ _ rfl RT (hh : Int) rfl rfl HRO.out.1 ?_)
    | (refine wpList_store_mid rfl 31 _ _ rfl gn (d * 17) _ rfl rfl HTH.out HTY.out HONE.out ?_))
  have hZL : (List.replicate 5 (nodL zeroNode)).length = 5 := rfl
  have hWZ : Wide 17 (List.replicate 5 (nodL zeroNode)) := fun x hx => by rw [List.eq_of_mem_replicate hx]; exact nodL_len zeroNode_ok
  have hRN : (⟨RT, (hh : Int)⟩ : NodeN).Ok := ⟨⟨HRO.out.1, HRO.out.2⟩, by show (-9223372036854775808 : Int) ≤ hh; omega, by show (hh : Int) ≤ 9223372036854775807; omega⟩
  obtain ⟨w5, hw5⟩ : ∃ x, x = w4.setCells gn (d * 17) (nodeV RT (hh : Int)).toList := ⟨_, rfl⟩
  have hN5 : NodesAt (some ⟨gn, 0, none⟩) (nodes5 d ⟨RT, hh⟩) w5 := by
    rw [hw5, NodesAt, nodes5, List.map_set, List.map_replicate]
    refine rat_of_cells (t := 32) ?_ (hWZ.set _ (nodL_len hRN))
    rw [flat_set (by decide) hWZ (by rw [hZL]; exact hd17) (nodL_len hRN), Nat.mul_comm 17 d]
    have q := Cells.lay (nodL ⟨RT, hh⟩) (List.replicate 5 (nodL zeroNode)).flatten (d * 17) w4 HC4.out
    rw [nodV_eq ⟨RT, hh⟩]
    exact q
  have hb5 : But gn w4 w5 := by rw [hw5]; exact But.setCells _ _ _ (But.refl _ _)
  have HST : LogsSt w.heap.size w (.pointer (some av)) g d seed hh gn (nodes5 d ⟨RT, hh⟩) [] w5 := by
    have hG : ∀ x, O x → x < gn := fun x hx => by rw [HGN.out]; exact HLD.out.lt x hx
    have hG2 : ∀ x, R x → x < gn := fun x hx => by rw [HGN.out]; exact HRL.out.lt hx
    have hO1 : Only (fun b => b = gn) w2 w5 := (Only.of (O := fun b => b = gn) HB24.out).but hb5 (.inl rfl)
    have hNG : N ≤ gn := by
      obtain ⟨_, _, _, hR, hc, _⟩ := HRL.out
      have h1 : R g := by rw [hR]; exact .inl rfl
      exact Nat.le_trans (HRN.out g h1) (Nat.le_of_lt (hG2 g h1))
    refine ⟨N, O, R, HLD.out.only hO1 (fun x hx e => by have := hG x hx; omega) (fun x e => by rw [e]; exact hNG), HRL.out.only hO1 (fun x hx e => by have := hG2 x hx; omega), HDIS.out, HNN.out, HRN.out, But.toBelow HB4.out hb5 (Nat.le_trans HNN.out hNG) HB4.out.size, fun h => Nat.lt_irrefl _ (hG gn h), fun h => Nat.lt_irrefl _ (hG2 gn h), hN5⟩
  rw [← hw5]
  have HSTH := Lib.hid HST
  have HRNH := Lib.hid hRN
  clear hw5 hN5 hb5 HST hZL hWZ hRN HC4 HB24 HB4 HLD HRL HDIS HNN HRN HROOT HEA
  go_wp2_with fail
  have HZC := Lib.hid (show (Tryz.prog.info? 39).bind (·.zero) = some (.agg (callL ⟨false, none, [], 0, 0, 0⟩).toArray) by kernel_rfl)
  have HZA := Lib.hid (show (Tryz.prog.info? 45).bind (·.zero) = some (.agg (autL noA).toArray) by kernel_rfl)
  have HSC := Lib.hid (show (Tryz.prog.info? 39).map (·.size) = some 4 by kernel_rfl)
  go_loopw [76] (fun c wr => ∃ k : Nat, k ≤ ns ∧ c = .int .i64 k ∧ ∃ L, AllG L ∧ L.length ≤ 2 ^ hh ∧ LogsSt w.heap.size w (.pointer (some av)) g d seed hh gn (nodes5 d ⟨RT, hh⟩) L wr) (fun c _ => ns - (intOf c).toNat)
  case atStart => exact ⟨0, Nat.zero_le _, rfl, [], fun x hx => (by cases hx), Nat.zero_le _, HSTH.out⟩
  case round =>
    clear HSTH
    obtain ⟨k, hk, rfl, L, hg, hlen, hst⟩ := hrel
    have HG := Lib.hid hg
    have HLE := Lib.hid hlen
    have HST := Lib.hid hst
    have HBW := Lib.hid hst.world
    clear hg hlen hst
    by_cases hks : k < ns
    · obtain ⟨x, hx⟩ : ∃ x, S[k]? = some x := ⟨_, List.getElem?_eq_getElem (by rw [HN.out]; exact hks)⟩
      have HXI := Lib.hid (HSS.out x (List.mem_of_getElem? hx))
      obtain ⟨b, ob, rfl, hbl, hr⟩ := (HAT.out.below HBW.out).getM hx
      have HR := Lib.hid hr
      have HSO := Lib.hid (show (Tryz.prog.info? 39).map (·.size) = some (callL x).length from HSC.out)
      have HSV := Lib.hid (show (Tryz.prog.info? 39).map (·.size) = some (callL x).toArray.size from HSC.out)
      have HVA := Lib.hid (show (callL x).toArray.all (·.oneCell') = true from all_oneCell_toArray (fun u hu => by
        simp only [callL, List.mem_cons, List.not_mem_nil, or_false] at hu
        rcases hu with rfl | rfl | rfl | rfl <;> rfl))
      clear hx hr hbl
      go_wp2_with (first
        | (refine wpList_load_mid rfl 39 _ rfl b (ob + k * 4) rfl (callL x) _ HR.out Tryz.underlying39 rfl HSO.out ?_)
        | (refine wpList_alloc_of rfl 39 rfl (callL ⟨false, none, [], 0, 0, 0⟩) HZC.out ?_)
        | (refine wpList_store_cells rfl 39 _ _ rfl rfl wr.heap.size (callL ⟨false, none, [], 0, 0, 0⟩).toArray (callL x).toArray 39 rfl rfl (heap_alloc_new wr _) HSV.out rfl HVA.out ?_))
      intro w6 hc hb
      have hbb : Below wr.heap.size wr w6 := But.toBelow ((Below.refl _ wr).alloc (Nat.le_refl _) _) hb.out (Nat.le_refl _) (by rw [World.size_alloc]; exact Nat.le_succ _)
      have HC6 := Lib.hid (show Cells wr.heap.size 39 (callL x).toArray w6 from hc.out)
      have HST6 := Lib.hid (HST.out.below (Nat.le_refl _) hbb)
      have HB6 := Lib.hid (HBW.out.trans (hbb.mono HBW.out.size))
      have HGC := Lib.hid (show wr.heap.size ≤ wr.heap.size from Nat.le_refl _)
      have hgcO : ∀ N' O' R' , LogIs N' O' (.pointer (some av)) d seed hh L wr → RLog R' g d seed hh L wr → ¬ O' wr.heap.size ∧ ¬ R' wr.heap.size := fun N' O' R' l1 l2 => ⟨fun e => Nat.lt_irrefl _ (l1.lt _ e), fun e => Nat.lt_irrefl _ (l2.lt e)⟩
      have HGO := Lib.hid hgcO
      obtain ⟨gc, hgc⟩ : ∃ z, z = wr.heap.size := ⟨_, rfl⟩
      rw [← hgc] at HC6 HGO ⊢
      have HGCE := Shut.mk hgc
      have HBR6 := Lib.hid hbb
      clear hc hb hbb hgc hgcO HGC HR HSO HSV HVA
      have HEN6 := Lib.hid (HXI.out.lie.below HB6.out)
      have k1 : w6.cell? ⟨gc, 1, none⟩ = some (.slice x.ao x.L.length x.cap) := HC6.out.at 1
      obtain ⟨m, hm⟩ : ∃ m, x.L.length = m := ⟨_, rfl⟩
      have HM := Shut.mk hm
      have HGR := Lib.hid (great16_any x.ao x.L x.cap w6 (fun e he => (HXI.out.ins e he).len16) HXI.out.long HEN6.out)
      rw [hm] at k1 HGR
      clear hm
      go_wp2_with fail
      refine HGR.out.mono ?_
      rintro e w7 ⟨⟨z, rfl, hz⟩, hb⟩
      have HC7 := Lib.hid (HC6.out.below hb)
      have HST7 := Lib.hid (HST6.out.below (Nat.le_refl _) hb)
      have HB7 := Lib.hid (HB6.out.trans (hb.mono HB6.out.size))
      have HB67 := Lib.hid hb
      clear hb k1 HC6 HB6 HGR
      cases z with
      | true =>
        go_wp2_with fail
        go_ret
        exact ⟨rfl, HB7.out⟩
      | false =>
      have HSM := Lib.hid (hz rfl)
      clear hz
      have k0 : w7.cell? ⟨gc, 0, none⟩ = some (.bool x.app) := HC7.out.at 0
      obtain ⟨ap, hap⟩ : ∃ a, x.app = a := ⟨_, rfl⟩
      rw [hap] at k0
      clear hap
      cases ap with
      | false =>
        have k2 : w7.cell? ⟨gc, 2, none⟩ = some (.int .i64 x.seq) := HC7.out.at 2
        have k3 : w7.cell? ⟨gc, 3, none⟩ = some (.int .i64 x.till) := HC7.out.at 3
        go_wp2_with fail
        obtain ⟨N', O', R', l1, l2, hds, hN', hR', _, hgo, hgr, hnd⟩ := HST7.out
        refine (asked16_any x.seq x.till w7 (HK.out.below HB7.out) l1 l2 (fun e he => ⟨(HG.out e he).2.1, (HG.out e he).2.2⟩) HLE.out (Nat.le_trans H3.out.2.2.2.1 (by decide)) H3.out.2.1 ⟨by omega, by omega⟩ HXI.out.slow HXI.out.shigh HXI.out.tlow HXI.out.thigh).mono ?_
        rintro e w8 ⟨rfl, hb⟩
        have HL8 := Lib.hid (l1.below hb)
        have HC8 := Lib.hid (HC7.out.below hb)
        have HST8 := Lib.hid (HST7.out.below (Nat.le_refl _) hb)
        have HB8 := Lib.hid (HB7.out.trans (hb.mono HB7.out.size))
        have HND8 := Lib.hid (RAt.below hnd hb)
        have k28 : w8.cell? ⟨gc, 2, none⟩ = some (.int .i64 x.seq) := HC8.out.at 2
        clear hb k0 k2 k3 l1 l2 hds hN' hR' hgo hgr hnd HC7 HST7 HB7
        by_cases hq : 1 ≤ x.seq ∧ x.seq ≤ L.length
        · obtain ⟨q, hqq⟩ := Int.eq_ofNat_of_zero_le (show 0 ≤ x.seq by omega)
          rw [hqq] at hq k28
          have hq1 : 1 ≤ q := by omega
          have hq2 : q ≤ L.length := by omega
          have HCK := Lib.hid (checkN_auth (L := L) H3.out.1 H3.out.2.2.1 (Nat.le_trans H3.out.2.2.2.1 (by decide)) hq1 (Nat.le_trans hq2 HLE.out) (seed := seed))
          rw [HRTE.out] at HCK
          have HAU := Lib.hid (dev_auth q w8 HL8.out hq1 hq2 (HK.out.below HB8.out))
          have HAB := Lib.hid (show IdOk (authL (d : Int) seed hh L q).hash from hashL_ok _ _)
          have HSGL := Lib.hid (show (authL (d : Int) seed hh L q).sig.length ≤ 1000000 from by
            show (signK _ _ _ _).length ≤ _
            rw [signK_len seed (show q - 1 < 2 ^ hh by have := HLE.out; omega)]
            have := H3.out.2.2.2.1
            omega)
          have HNOD := Shut.mk (show (authL (d : Int) seed hh L q).node = (d : Int) from rfl)
          have HSEQ := Shut.mk (show (authL (d : Int) seed hh L q).seq = (q : Int) from rfl)
          obtain ⟨AZ, hAZ⟩ : ∃ a, authL (d : Int) seed hh L q = a := ⟨_, rfl⟩
          rw [hAZ] at HCK HAU HAB HSGL HNOD HSEQ
          have HSA := Lib.hid (sizeAV HAB.out)
          clear hAZ hqq
          have q256 : q ≤ 256 := by have := HLE.out; have := HP24.out; omega
          go_wp2_with fail
          refine HAU.out.mono ?_
          rintro e w9 ⟨rfl, hb⟩
          have HST9 := Lib.hid (HST8.out.below (Nat.le_refl _) hb)
          have HND9 := Lib.hid (RAt.below HND8.out hb)
          have HB9 := Lib.hid (HB8.out.trans (hb.mono HB8.out.size))
          clear hb k28 HAU HL8 HC8 HST8 HB8 HND8
          go_wp2_with (first
            | (refine wpList_alloc_of rfl 45 rfl (autL noA) HZA.out ?_)
            | (refine wpList_store_cells rfl 45 _ _ rfl rfl w9.heap.size (autV noA) (autV AZ) 45 rfl rfl (heap_alloc_new w9 _) HSA.out ((autV_size (a := noA) zeroI_ok).trans (autV_size HAB.out).symm) (autV_all _) ?_))
          intro w10 hc hb
          have hbb : Below w9.heap.size w9 w10 := But.toBelow ((Below.refl _ w9).alloc (Nat.le_refl _) _) hb.out (Nat.le_refl _) (by rw [World.size_alloc]; exact Nat.le_succ _)
          have HA10 := Lib.hid hc.out
          have HST10 := Lib.hid (HST9.out.below (Nat.le_refl _) hbb)
          have HND10 := Lib.hid (RAt.below HND9.out hbb)
          have HB10 := Lib.hid (HB9.out.trans (hbb.mono HB9.out.size))
          have HK10 := Lib.hid (HK.out.below HB10.out)
          obtain ⟨ga, hga⟩ : ∃ z, z = w9.heap.size := ⟨_, rfl⟩
          rw [← hga] at HA10 ⊢
          clear hc hb hbb hga HST9 HND9 HB9
          have HAX := Lib.hid (fun (w' : World) (b : SS w10 w') => HA10.out.below b.1)
          have HSL := Lib.hid (slice_nodes gn)
          have HCH := Lib.hid (fun (w' : World) (b : SS w10 w') => show Calls Tryz.prog 10 #[.agg (autV AZ), .slice (some ⟨gn, 0, none⟩) 5 5] w' fun r w'' => r = .returned (.bool true) ∧ Below w'.heap.size w' w'' from by
            have q := dev_check16 AZ (some ⟨gn, 0, none⟩) (nodes5 d ⟨RT, hh⟩) 5 w' (by rw [HNOD.out]; omega) (by rw [HNOD.out]; omega) (by rw [HSEQ.out]; omega) (by rw [HSEQ.out]; omega) HAB.out HSGL.out (nodes5_ok HRNH.out) (by simp [nodes5]) (RAt.below HND10.out b.1) b.2
            rw [HCK.out, show (nodes5 d ⟨RT, (hh : Int)⟩).length = 5 by simp [nodes5]] at q
            exact q)
          have HNT := Lib.hid (show ∀ w, (Op.unary .not (.bool true)).run Tryz.prog w = .ok (.bool false) w from fun w => by kernel_rfl)
          go_wp2_with fail
          go_upto_region 19 with (fail)
          refine wp_region_class (fun w' => SS w10 w') (by kernel_rfl) (by kernel_rfl) (SS.start HK10.out) ?_
          repeat (first
            | go_big_quiet_skip
            | (go_big_quiet_want; refine quiet_load_cells 45 _ rfl ga (autV AZ) 45 _ rfl HAX.out Tryz.underlying45 rfl HSA.out ?_; go_big_quiet_on; simp only [Act.put, List.setIfInBounds_toArray, List.set_cons_zero, List.set_cons_succ])
            | (go_big_quiet_want; refine quiet_un .not 4 _ rfl (.bool true) _ rfl HNT.out ?_; go_big_quiet_on; simp only [Act.put, List.setIfInBounds_toArray, List.set_cons_zero, List.set_cons_succ])
            | go_big_quiet_step ((intro hs'; first
                | (go_at_call 10; exact (HCH.out _ hs').mono fun e w' h => ⟨h.1, hs'.next h.2⟩)
                | rfl)))
          refine wpQuiet_nil ?_
          intro w11 hs11
          have HST11 := Lib.hid (HST10.out.below (Nat.le_refl _) hs11.1)
          clear hs11
          go_wp2_with fail
          exact ⟨⟨k + 1, by omega, by go_num, L, HG.out, HLE.out, HST11.out⟩, by simp [intOf]; omega⟩
        · have HAU := Lib.hid (dev_authNone x.seq w8 HL8.out (by omega))
          go_wp2_with fail
          refine HAU.out.mono ?_
          rintro e w9 ⟨rfl, hb⟩
          have HST9 := Lib.hid (HST8.out.below (Nat.le_refl _) hb)
          clear hb k28 HAU HL8 HC8 HST8 HB8 HND8
          go_wp2_with (first
            | (refine wpList_alloc_of rfl 45 rfl (autL noA) HZA.out ?_)
            | (refine wpList_store_cells rfl 45 _ _ rfl rfl w9.heap.size (autV noA) (autV noA) 45 rfl rfl (heap_alloc_new w9 _) (sizeAV (a := noA) zeroI_ok) rfl (autV_all _) ?_))
          intro w10 hc hb
          have hbb : Below w9.heap.size w9 w10 := But.toBelow ((Below.refl _ w9).alloc (Nat.le_refl _) _) hb.out (Nat.le_refl _) (by rw [World.size_alloc]; exact Nat.le_succ _)
          have HST10 := Lib.hid (HST9.out.below (Nat.le_refl _) hbb)
          clear hc hb hbb HST9
          go_wp2_with fail
          go_upto_region 19 with (fail)
          refine wp_region_class (fun w' => Below w10.heap.size w10 w') (by kernel_rfl) (by kernel_rfl) (Below.refl _ _).drew ?_
          repeat (first
            | go_big_quiet_skip
            | go_big_quiet_step ((intro hs'; rfl)))
          refine wpQuiet_nil ?_
          intro w11 hs11
          have HST11 := Lib.hid (HST10.out.below (Nat.le_refl _) hs11)
          clear hs11
          go_wp2_with fail
          exact ⟨⟨k + 1, by omega, by go_num, L, HG.out, HLE.out, HST11.out⟩, by simp [intOf]; omega⟩
      | true =>
        obtain ⟨N', O', R', l1, l2, hds, hN', hR', _, hgo, hgr, hnd⟩ := HST.out
        have HGCR := Lib.hid (HGO.out N' O' R' l1 l2)
        have hb7 : Below wr.heap.size wr w7 := HBR6.out.trans (HB67.out.mono HBR6.out.size)
        have HL7 := Lib.hid (l1.below hb7)
        have HR7 := Lib.hid (l2.below hb7)
        have HND7 := Lib.hid (RAt.below hnd hb7)
        have HDS := Lib.hid hds
        have HNN := Lib.hid hN'
        have HRN := Lib.hid hR'
        have HGN2 := Lib.hid (show ¬ O' gn ∧ ¬ R' gn from ⟨hgo, hgr⟩)
        have HAT7 := Lib.hid (HEN6.out.below HB67.out)
        have HCP := Lib.hid HXI.out.nil
        have HMM := Lib.hid (show ∀ e ∈ x.L, e.Len ∧ e.seq < 9223372036854775808 from fun e he => ⟨(HXI.out.ins e he).len16, by have := (HXI.out.ins e he).shigh; omega⟩)
        obtain ⟨xa, hxa⟩ : ∃ a, x.ao = a := ⟨_, rfl⟩
        obtain ⟨xc, hxc⟩ : ∃ a, x.cap = a := ⟨_, rfl⟩
        clear l1 l2 hds hN' hR' hgo hgr hnd hb7 HST HST7 HGO HBR6 HEN6 HB67 HBW
        obtain ⟨la7, lc7, rv, hRO, hcg, hea, hown⟩ := HR7.out
        obtain ⟨ar, cr, hrv⟩ := hown.form
        obtain ⟨n, hn⟩ : ∃ n, L.length = n := ⟨_, rfl⟩
        rw [hn] at hrv
        subst hrv
        have HNL := Shut.mk hn
        have HRO := Shut.mk hRO
        have HCG7 := Lib.hid hcg
        have HEA7 := Lib.hid hea
        have HOW7 := Lib.hid hown
        have c2 : w7.cell? ⟨g, 2, none⟩ = some (.slice la7 P2 lc7) := by rw [← HPP.out]; exact hcg.at 2
        have c3 : w7.cell? ⟨g, 3, none⟩ = some (.slice ar n cr) := hcg.at 3
        have k1 : w7.cell? ⟨gc, 1, none⟩ = some (.slice x.ao m x.cap) := by rw [← HM.out]; exact HC7.out.at 1
        rw [hxa, hxc] at k1 HCP ⊢
        rw [hxa] at HAT7
        have HXA := Shut.mk hxa
        have HXC := Shut.mk hxc
        have HXL := Lib.hid (show EntsAt xa x.L w from hxa ▸ HXI.out.lie)
        clear hxa hxc
        have hn4 : n ≤ 4 := by rw [← HNL.out]; exact Nat.le_trans HLE.out HP24.out
        have hm12 : m ≤ 12 := by rw [← HM.out]; exact HSM.out.1
        have HN4 := Lib.hid (show n ≤ 4 ∧ m ≤ 12 from ⟨hn4, hm12⟩)
        have HSUM := Lib.hid (sum_at n m (by omega) (by omega))
        have HGTR := Lib.hid (gtr_at (n + m) P2)
        obtain ⟨sm, hsm⟩ : ∃ z, n + m = z := ⟨_, rfl⟩
        have HSMM := Shut.mk hsm
        have HW3 := Lib.hid (fun (w' : World) (b : Below w7.heap.size w7 w') => (b.cell (p := ⟨g, 3, none⟩) hcg.lt).trans c3)
        have HW2 := Lib.hid (fun (w' : World) (b : Below w7.heap.size w7 w') => (b.cell (p := ⟨g, 2, none⟩) hcg.lt).trans c2)
        have HW1 := Lib.hid (fun (w' : World) (b : Below w7.heap.size w7 w') => (b.cell (p := ⟨gc, 1, none⟩) HC7.out.lt).trans k1)
        have HZE := Lib.hid (show (Tryz.prog.info? 54).bind (·.zero) = some (.agg (entL noE).toArray) by kernel_rfl)
        have HSTX := Lib.hid (show w.heap.size ≤ w7.heap.size from HB7.out.size)
        rw [hsm] at HSUM HGTR
        clear hRO hcg hea hown hn hn4 hm12 c2 c3 hsm
        obtain ⟨bz, hbz⟩ : ∃ z, decide (P2 < sm) = z := ⟨_, rfl⟩
        rw [hbz] at HGTR
        have HW0 := Lib.hid (show ((if bz then 8 else 0 : Nat) = wantE hh L x.L 0) from by
          have e1 : wantE hh L x.L 0 = if n + m ≤ P2 then 0 else 8 := by rw [wantE, if_pos (by simp), HNL.out, HM.out, HPP.out]
          rw [e1, ← hbz, ← HSMM.out]
          by_cases hp : P2 < n + m
          · rw [decide_eq_true hp, if_pos rfl, if_neg (by omega)]
          · rw [decide_eq_false hp, if_neg (by decide), if_pos (by omega)])
        clear hbz
        go_upto_region 22 with (fail)
        refine wp_region_class (fun w' => Below w7.heap.size w7 w') (by kernel_rfl) (by kernel_rfl) (Below.refl _ _).drew ?_
        repeat (first
          | go_big_quiet_skip
          | (go_big_quiet_want; refine quiet_load_cell 35 _ rfl ⟨g, 3, none⟩ _ rfl HW3.out Tryz.isAgg35 ?_; go_big_quiet_on; simp only [Act.put, List.setIfInBounds_toArray, List.set_cons_zero, List.set_cons_succ])
          | (go_big_quiet_want; refine quiet_load_cell 35 _ rfl ⟨gc, 1, none⟩ _ rfl HW1.out Tryz.isAgg35 ?_; go_big_quiet_on; simp only [Act.put, List.setIfInBounds_toArray, List.set_cons_zero, List.set_cons_succ])
          | (go_big_quiet_want; refine quiet_load_cell 34 _ rfl ⟨g, 2, none⟩ _ rfl HW2.out Tryz.isAgg34 ?_; go_big_quiet_on; simp only [Act.put, List.setIfInBounds_toArray, List.set_cons_zero, List.set_cons_succ])
          | (go_big_quiet_want; refine quiet_bin .add 3 _ _ _ rfl (.int .i64 (n : Int)) (.int .i64 (m : Int)) _ rfl rfl (fun _ => rfl) HSUM.out ?_; go_big_quiet_on; simp only [Act.put, List.setIfInBounds_toArray, List.set_cons_zero, List.set_cons_succ])
          | (go_big_quiet_want; refine quiet_bin .gtr 3 _ _ _ rfl (.int .i64 (sm : Int)) (.int .i64 (P2 : Int)) _ rfl rfl (fun _ => rfl) HGTR.out ?_; go_big_quiet_on; simp only [Act.put, List.setIfInBounds_toArray, List.set_cons_zero, List.set_cons_succ])
          | go_big_quiet_step ((intro hs'; rfl)))
        refine wpQuiet_nil ?_
        intro w8 hs8
        have k18 := HW1.out w8 hs8
        have HS8 := Lib.hid hs8
        clear hs8 k1 k0 HSUM HGTR
        go_upto_if 123 with (fail)
        go_cut [17] from 77 to 179 (fun s wx => s = .int .i64 ((wantE hh L x.L 0 : Nat) : Int) ∧ wx = w8)
        case first =>
          cases bz with
          | true =>
            go_wp2_with fail
            go_meet
            case rel => exact ⟨by rw [← HW0.out]; rfl, rfl⟩
          | false =>
            go_wp2_with fail
            go_meet
            case rel => exact ⟨by rw [← HW0.out]; rfl, rfl⟩
        case rest =>
        obtain ⟨rfl, hwc⟩ := hcut
        rw [hwc]
        clear hwc HW0
        go_wp2_with fail
        go_loopw [17, 127] (fun v j wr => ∃ t : Nat, t ≤ m ∧ j = .int .i64 t ∧ v = .int .i64 ((wantE hh L x.L t : Nat) : Int) ∧ Below w8.heap.size w8 wr) (fun _ j _ => m - (intOf j).toNat)
        case atStart => exact ⟨0, Nat.zero_le _, rfl, rfl, Below.refl _ _⟩
        case round =>
          obtain ⟨ws, rfl⟩ : ∃ z, z = wr := ⟨_, rfl⟩
          obtain ⟨t, ht, rfl, rfl, hbs⟩ := hrel
          have HBS := Lib.hid hbs
          have HATS := Lib.hid (RAt.below (RAt.below HAT7.out HS8.out) hbs)
          clear hbs
          by_cases htm : t < m
          · obtain ⟨y, hy⟩ : ∃ y, x.L[t]? = some y := ⟨_, List.getElem?_eq_getElem (by rw [HM.out]; exact htm)⟩
            have HYI := Lib.hid (HXI.out.ins y (List.mem_of_getElem? hy))
            have HYT := Shut.mk hy
            obtain ⟨bx, ox, rfl, hbl, hr⟩ := HATS.out.getM hy
            have HR := Lib.hid hr
            have HSL := Lib.hid (sizeEL HYI.out.ok)
            have HSV := Lib.hid (sizeEV HYI.out.ok)
            have HGY := Lib.hid (fun w' => ref_good15 y HYI.out.len16 w')
            clear hy hbl hr
            by_cases gy : GoodE y
            case' pos =>
              rw [decide_eq_true gy] at HGY
              have HWY := Shut.mk (wantE_yes (h := hh) (L := L) HYT.out gy)
            case' neg =>
              rw [decide_eq_false gy] at HGY
              have HWY := Shut.mk (wantE_no (h := hh) (L := L) HYT.out gy)
            all_goals
              clear gy
              have hm12 := HN4.out.2
              go_wp2_with (first
                | (refine wpList_load_mid rfl 54 _ rfl bx (ox + t * 73) rfl _ _ HR.out Tryz.underlying54 rfl HSL.out ?_)
                | (refine wpList_alloc_of rfl 54 rfl (entL noE) HZE.out ?_)
                | (refine wpList_store_cells rfl 54 _ _ rfl rfl ws.heap.size (entV noE) (entV y) 54 rfl rfl (heap_alloc_new ws _) HSV.out (by rw [entV_size HYI.out.ok]; rfl) (entV_all y) ?_))
              intro w9 hc hb
              have hb9 : Below ws.heap.size ws w9 := But.toBelow ((Below.refl _ ws).alloc (Nat.le_refl _) _) hb.out (Nat.le_refl _) (by rw [World.size_alloc]; exact Nat.le_succ _)
              have HC9 := Lib.hid hc.out
              have HB9 := Lib.hid (HBS.out.trans (hb9.mono HBS.out.size))
              obtain ⟨g9, hg9⟩ : ∃ z, ws.heap.size = z := ⟨_, rfl⟩
              rw [hg9] at HC9 ⊢
              clear hc hb hb9 hg9 HBS HATS HR HSL
              go_wp2_with (refine wpList_load_cells rfl 54 _ rfl g9 (entV y) 54 _ rfl HC9.out Tryz.underlying54 rfl HSV.out ?_)
              refine (HGY.out w9).mono ?_
              rintro e w10 ⟨rfl, hb10⟩
              have HB10 := Lib.hid (HB9.out.trans (hb10.mono HB9.out.size))
              clear hb10 HB9 HC9 HGY
              go_wp2_with fail
              exact ⟨⟨t + 1, by omega, by go_num, by rw [HWY.out]; try rfl, HB10.out⟩, by simp [intOf]; omega⟩
          · obtain rfl : m = t := by omega
            have HWE := Shut.mk (wantE_all hh L x.L m (by rw [HM.out]; exact Nat.le_refl _))
            rw [HWE.out]
            have hb7s : Below w7.heap.size w7 ws := HS8.out.trans (HBS.out.mono HS8.out.size)
            have HL9 := Lib.hid (HL7.out.below hb7s)
            have HR9 := Lib.hid (HR7.out.below hb7s)
            have HND9 := Lib.hid (RAt.below HND7.out hb7s)
            have HB9 := Lib.hid (HB7.out.trans (hb7s.mono HB7.out.size))
            have HC9 := Lib.hid (HC7.out.below hb7s)
            have k19 : ws.cell? ⟨gc, 1, none⟩ = some (.slice xa m xc) := HW1.out ws hb7s
            have HAP := Lib.hid (dev_append (h := hh) xa x.L xc ws HL9.out HLE.out (fun e he => (HG.out e he).2) (fun e he => ⟨(HXI.out.ins e he).len16, by have := (HXI.out.ins e he).shigh; omega⟩) (by rw [HM.out]; have := HN4.out.2; omega) HATS.out (by rw [← HXA.out, ← HXC.out]; exact HXI.out.nil)
              (fun hne a ha hO => by
                have h1 := HL9.out.late _ hO
                have h2 := ents_lt HXL.out hne ha
                have h3 := HNN.out
                omega) (HK.out.below HB9.out) (Nat.lt_of_lt_of_le HK.out.lt HNN.out))
            rw [HM.out] at HAP
            obtain ⟨ae, hae⟩ : ∃ z, appE hh L x.L = z := ⟨_, rfl⟩
            rw [hae] at HAP ⊢
            have HAE := Shut.mk hae
            clear hae hb7s k18 HWE HATS HBS HS8 HL7 HR7 HND7 HB7
            go_wp2_with fail
            refine HAP.out.mono ?_
            rintro e w10 ⟨rfl, O2, hl2, htu⟩
            have HL10 := Lib.hid hl2
            have HTU := Lib.hid htu
            have HO2 := Lib.hid (show ∀ z, O2 z → ¬ R' z from fun z hz hr => by
              rcases htu.own z hz with h1 | h1
              · exact HDS.out z h1 hr
              · have := HR9.out.lt hr
                omega)
            have HB10 := Lib.hid (Only.toBelow HB9.out htu.only (fun b hb => Nat.le_trans HNN.out (HL9.out.late b hb)) HB9.out.size)
            have HGO2 := Lib.hid (show ¬ O2 gn from fun h => by
              rcases htu.own gn h with h1 | h1
              · exact HGN2.out.1 h1
              · have := nodes_lt HND9.out
                omega)
            have HND10 := Lib.hid (RAt.only16 HND9.out htu.only HGN2.out.1)
            have HR10 := Lib.hid (HR9.out.only htu.only (fun z hr ho => HDS.out z ho hr))
            have HC10 := Lib.hid ((HC9.out).only htu.only HGCR.out.1)
            have HAT10 := Lib.hid (HXL.out.below HB10.out)
            clear hl2 htu k19 HAP HTU HL9 HR9 HND9 HB9 HC9 HDS
            go_upto_if 142 with (fail)
            go_cut [] from 77 to 179 (fun wx => LogsSt w.heap.size w (.pointer (some av)) g d seed hh gn (nodes5 d ⟨RT, hh⟩) (appL hh L x.L) wx)
            case first =>
              by_cases hz : ae = 0
              · have hd : decide ((ae : Int) = 0) = true := decide_eq_true (by omega)
                go_upto_region 33 with (fail)
                obtain ⟨la8, lc8, rv8, hRO8, hcg8, hea8, hown8⟩ := HR10.out
                obtain ⟨ar8, cr8, hrv8⟩ := hown8.form
                rw [HNL.out] at hrv8
                subst hrv8
                have HCF := Lib.hid (fun (w' : World) (b : Below w10.heap.size w10 w') => show w'.cell? ⟨g, 3, none⟩ = some (.slice ar8 n cr8) from (b.cell (p := ⟨g, 3, none⟩) hcg8.lt).trans (hcg8.at 3))
                have HCK := Lib.hid (fun (w' : World) (b : Below w10.heap.size w10 w') => show w'.cell? ⟨gc, 1, none⟩ = some (.slice xa m xc) from (b.cell (p := ⟨gc, 1, none⟩) HC10.out.lt).trans ((HC10.out.at 1).trans (by rw [← HXA.out, ← HXC.out, ← HM.out]; rfl)))
                have HSR := Lib.hid (show EntsAt ar8 L w10 from hown8.at)
                have HNIL := Lib.hid (ents_nil hown8)
                have HOWL := Lib.hid hown8.2
                have HRO8 := Shut.mk hRO8
                have HCG8 := Lib.hid hcg8
                have HEA8 := Lib.hid hea8
                have HOW8 := Lib.hid hown8
                clear hRO8 hcg8 hea8 hown8
                refine wp_region_free 12 (fun q V w' => Vals q V [(0, .pointer (some ⟨g, 0, none⟩)), (2, .pointer (some ⟨g, 0, none⟩)), (3, .pointer (some ⟨g, 0, none⟩)), (4, .pointer (some ⟨g, 3, none⟩)), (5, .slice ar8 n cr8), (7, .pointer (some ⟨gc, 1, none⟩)), (8, .slice xa m xc), (10, .pointer (some ⟨g, 0, none⟩)), (11, .pointer (some ⟨g, 3, none⟩))] ∧ Below w10.heap.size w10 w' ∧ Chain [1, 6, 9] (fun w' => Below w10.heap.size w10 w') (JoinM w10 L x.L) q V w') (fun | 0 => u143 | 1 => u144 | 2 => u145 | 3 => u146 | 4 => u147 | 5 => u148 | 6 => u149 | 7 => u150 | 8 => u151 | 9 => u152 | 10 => u153 | 11 => u154 | _ => undef) (by kernel_rfl) (by kernel_rfl) (by kernel_rfl) (by simp only [List.take_succ_cons, List.take_zero, putAll, Act.put, List.setIfInBounds_toArray, List.set_cons_zero, List.set_cons_succ]) ⟨Vals.none, (Below.refl _ _).drew, Chain.none (Below.refl _ _).drew (fun _ => (Below.refl _ _).drew)⟩ ?_ ?_
                · simp only [List.take_succ_cons, List.take_zero, putAll, Nat.zero_add, Nat.reduceAdd, Act.put, List.setIfInBounds_toArray, List.set_cons_zero, List.set_cons_succ]
                  refine FreeSteps.cons ?_ (FreeSteps.cons ?_ (FreeSteps.cons ?_ (FreeSteps.cons ?_ (FreeSteps.cons ?_ (FreeSteps.cons ?_ (FreeSteps.cons ?_ (FreeSteps.cons ?_ (FreeSteps.cons ?_ (FreeSteps.cons ?_ (FreeSteps.cons ?_ (FreeSteps.cons ?_ (FreeSteps.nil))))))))))))
                  all_goals (refine FreeStep.fresh rfl ?_; rintro q V wq hr hu ⟨hVs, hb, hch⟩ K hK)
                  · exact op_move (.tmp 10) rfl _ rfl (hK _ _ ⟨hVs.set rfl, hb, hch.ne (by decide) (by decide)⟩)
                  · have hm : Below w10.heap.size w10 wq := hch.at 0 (by decide) hu (.inl rfl)
                    refine op_empty_ents rfl ?_
                    have hb' : Below wq.heap.size wq (wq.alloc (.cells #[] 54)) := (Below.refl _ _).alloc (Nat.le_refl _) _
                    have hbn : Below w10.heap.size w10 (wq.alloc (.cells #[] 54)) := Below.trans hm (hb'.mono hm.size)
                    have hc1 := hch.step (v := .slice (some ⟨wq.heap.size, 0, none⟩) 0 0) 0 (by decide) (by decide) hu (.inl rfl) hbn ⟨hbn, lit_ents wq hm.size⟩
                    exact (hK _ _ ⟨hVs.off rfl, hbn, hc1⟩)
                  · exact op_move (.tmp 10) rfl _ rfl (hK _ _ ⟨hVs.set rfl, hb, hch.ne (by decide) (by decide)⟩)
                  · exact op_nilCheck (.tmp 145) rfl ⟨g, 0, none⟩ (hVs.get 2 (hr { on := 2, ground := .data } (by simp) rfl) rfl) (hK _ _ ⟨hVs.set rfl, hb, hch.ne (by decide) (by decide)⟩)
                  · exact op_fieldAt 37 (.tmp 146) 3 rfl _ _ (hVs.get 3 (hr { on := 3, ground := .data } (by simp) rfl) rfl) (field_log g) (hK _ _ ⟨hVs.set rfl, hb, hch.ne (by decide) (by decide)⟩)
                  · exact op_load_cell 35 (.tmp 147) rfl _ _ (hVs.get 4 (hr { on := 4, ground := .data } (by simp) rfl) rfl) (HCF.out wq hb) Tryz.isAgg35 (hK _ _ ⟨hVs.set rfl, hb, hch.ne (by decide) (by decide)⟩)
                  · obtain ⟨hm, hv1⟩ : JoinM w10 L x.L 1 (V 1) wq := hch.at 1 (by decide) hu (.inr (hr { on := 1, ground := .data } (by simp) rfl))
                    refine op_push_ents rfl (.tmp 144) (.tmp 148) rfl w10.heap.size _ [] L HOWL.out ar8 n cr8 HNL.out.symm rfl hv1 (hVs.get 5 (hr { on := 5, ground := .data } (by simp) rfl) rfl) (RAt.below HSR.out hm) HNIL.out (by rw [HNL.out]; simp; have := HN4.out.1; omega) hm.size ?_
                    intro v' w' ho' hg'
                    have hb' : Below w10.heap.size wq w' := (Below.refl _ _).grown hg' hm.size (fun g hg => (hv1.1.lt hg).1)
                    have hbn := Below.trans hm hb'
                    have hc6 := hch.step (v := v') 1 (by decide) (by decide) hu (.inr (hr { on := 1, ground := .data } (by simp) rfl)) hbn ⟨hbn, ho'⟩
                    exact (hK _ _ ⟨hVs.off rfl, hbn, hc6⟩)
                  · exact op_fieldAt 39 (.tmp 14) 1 rfl _ _ rfl (field_call gc) (hK _ _ ⟨hVs.set rfl, hb, hch.ne (by decide) (by decide)⟩)
                  · exact op_load_cell 35 (.tmp 150) rfl _ _ (hVs.get 7 (hr { on := 7, ground := .data } (by simp) rfl) rfl) (HCK.out wq hb) Tryz.isAgg35 (hK _ _ ⟨hVs.set rfl, hb, hch.ne (by decide) (by decide)⟩)
                  · obtain ⟨hm, hv2⟩ : JoinM w10 L x.L 2 (V 6) wq := hch.at 2 (by decide) hu (.inr (hr { on := 6, ground := .data } (by simp) rfl))
                    refine op_push_ents rfl (.tmp 149) (.tmp 151) rfl w10.heap.size _ L x.L (fun e he => (HXI.out.ins e he).ok) xa m xc HM.out.symm rfl hv2 (hVs.get 8 (hr { on := 8, ground := .data } (by simp) rfl) rfl) (RAt.below HAT10.out hm) HCP.out (by rw [HNL.out, HM.out]; have := HN4.out.1; have := HN4.out.2; omega) hm.size ?_
                    intro v' w' ho' hg'
                    have hb' : Below w10.heap.size wq w' := (Below.refl _ _).grown hg' hm.size (fun g hg => (hv2.1.lt hg).1)
                    have hbn := Below.trans hm hb'
                    have hc9 := hch.step (v := v') 2 (by decide) (by decide) hu (.inr (hr { on := 6, ground := .data } (by simp) rfl)) hbn ⟨hbn, ho'⟩
                    exact (hK _ _ ⟨hVs.off rfl, hbn, hc9⟩)
                  · exact op_nilCheck (.tmp 143) rfl ⟨g, 0, none⟩ (hVs.get 0 (hr { on := 0, ground := .data } (by simp) rfl) rfl) (hK _ _ ⟨hVs.set rfl, hb, hch.ne (by decide) (by decide)⟩)
                  · exact op_fieldAt 37 (.tmp 153) 3 rfl _ _ (hVs.get 10 (hr { on := 10, ground := .data } (by simp) rfl) rfl) (field_log g) (hK _ _ ⟨hVs.set rfl, hb, hch.ne (by decide) (by decide)⟩)
                rintro q V wq hall ⟨hVs, hb, hch⟩
                have v0 := hVs.get 0 (hall 0 (by decide)) rfl
                obtain ⟨u1, v1⟩ : ∃ v, V 1 = v := ⟨_, rfl⟩
                have v2 := hVs.get 2 (hall 2 (by decide)) rfl
                have v3 := hVs.get 3 (hall 3 (by decide)) rfl
                have v4 := hVs.get 4 (hall 4 (by decide)) rfl
                have v5 := hVs.get 5 (hall 5 (by decide)) rfl
                obtain ⟨u6, v6⟩ : ∃ v, V 6 = v := ⟨_, rfl⟩
                have v7 := hVs.get 7 (hall 7 (by decide)) rfl
                have v8 := hVs.get 8 (hall 8 (by decide)) rfl
                obtain ⟨u9, v9⟩ : ∃ v, V 9 = v := ⟨_, rfl⟩
                have v10 := hVs.get 10 (hall 10 (by decide)) rfl
                have v11 := hVs.get 11 (hall 11 (by decide)) rfl
                obtain ⟨hon, hrow⟩ : JoinM w10 L x.L 3 (V 9) wq := hch.fin (fun p hp => by match p, hp with | 0, _ => exact hall 1 (by decide) | 1, _ => exact hall 6 (by decide) | 2, _ => exact hall 9 (by decide))
                have hrow : OwnE15 w10.heap.size (V 9) (L ++ x.L) wq := hrow
                rw [v9] at hrow
                simp only [List.take_succ_cons, List.take_zero, List.drop_succ_cons, List.drop_zero, putAll, Nat.zero_add, Nat.reduceAdd, v0, v1, v2, v3, v4, v5, v6, v7, v8, v9, v10, v11, Act.put, List.setIfInBounds_toArray, List.set_cons_zero, List.set_cons_succ]
                clear hVs v0 v1 v2 v3 v4 v5 v6 v7 v8 v9 v10 v11 hall
                obtain ⟨a4, c4, hu9⟩ := hrow.form
                have HROW := Lib.hid hrow
                have HON := Lib.hid hon
                have hcs := HCG8.out.below hon
                have cf : wq.cell? ⟨g, 3, none⟩ = some (.slice ar8 n cr8) := HCF.out wq hon
                have ff := hcs.frozen 3
                have HCS := Lib.hid hcs
                have hne : u9 = u9 := rfl
                obtain ⟨kl, hkl⟩ : ∃ z, (L ++ x.L).length = z := ⟨_, rfl⟩
                rw [hkl] at hu9
                subst hu9
                clear hch hrow hb hon hcs hkl hne HCF HCK HSR HNIL HOWL
                go_wp2_with fail
                go_meet
                case rel =>
                  have hR8 : ∀ z, refLogO g la8 (.slice ar8 n cr8) z → R' z := fun z hz => by rw [HRO8.out]; exact hz
                  have hRg : R' g := hR8 g (.inl rfl)
                  have hOnly : Only (fun b => b = g) w10 (wq.setCell ⟨g, 3, none⟩ (.slice a4 kl c4)) := (Only.of (O := fun b => b = g) HON.out).setCell 3 _ (.inl rfl)
                  have hcell := HCS.out.set 3 (.slice a4 kl c4)
                  have hbig : ∀ z, (Value.slice a4 kl c4).ownBlock = some z → w10.heap.size ≤ z := fun z hz => (HROW.out.1.lt hz).1
                  have hal : ∀ a, la8 = some a → a.block ≠ g := fun a ha he => eat_off HEA8.out (by rw [leavesN_len]; exact Nat.two_pow_pos hh) (leavesN_ok _ _) HCG8.out ha he
                  have hrow2 : OwnE15 w10.heap.size (.slice a4 kl c4) (L ++ x.L) (wq.setCell ⟨g, 3, none⟩ (.slice a4 kl c4)) := HROW.out.only (P := fun b => b = g) ((Only.refl _ wq).setCell 3 _ (.inl rfl)) (fun b hb e => by
                    have := hbig b hb
                    have := HCG8.out.lt
                    omega)
                  have hal2 : appL hh L x.L = L ++ x.L := by rw [appL, HAE.out, if_pos hz]
                  have q := HL10.out
                  rw [hal2] at q ⊢
                  have hRz : ∀ z, refLogO g la8 (.slice a4 kl c4) z → R' z ∨ w10.heap.size ≤ z := fun z hz => by
                    rcases hz with h | h | h
                    · exact .inl (hR8 z (.inl h))
                    · exact .inl (hR8 z (.inr (.inl h)))
                    · exact .inr (hbig z h)
                  have hgN := HRN.out g hRg
                  have hgl := HCG8.out.lt
                  refine ⟨N', O2, refLogO g la8 (.slice a4 kl c4), q.only hOnly (fun z hz e => HO2.out z hz (e ▸ hRg)) (fun z e => by rw [e]; exact hgN), RLog.more HR10.out HRO8.out hcell (HEA8.out.only16 hOnly hal) (hrow2.mono (Nat.zero_le _)), ?_, HNN.out, ?_, Only.toBelow HB10.out hOnly (fun b e => by rw [e]; exact Nat.le_trans HNN.out hgN) HB10.out.size, HGO2.out, ?_, RAt.only16 HND10.out hOnly (fun e => HGN2.out.2 (e ▸ hRg))⟩
                  · intro z hz hr
                    rcases hRz z hr with h | h
                    · exact HO2.out z hz h
                    · have := q.lt z hz
                      omega
                  · intro z hz
                    rcases hRz z hz with h | h
                    · exact HRN.out z h
                    · omega
                  · intro h
                    rcases hRz gn h with h | h
                    · exact HGN2.out.2 h
                    · have := nodes_lt HND10.out
                      omega
              · have hd : decide ((ae : Int) = 0) = false := decide_eq_false (by omega)
                go_wp2_with fail
                go_meet
                case rel =>
                  have q := HL10.out
                  rw [show appL hh L x.L = L by rw [appL, HAE.out, if_neg hz]] at q ⊢
                  exact ⟨N', O2, R', q, HR10.out, HO2.out, HNN.out, HRN.out, HB10.out, HGO2.out, HGN2.out.2, HND10.out⟩
            case rest =>
            have HLLN := Lib.hid (appL_len (M := x.L) HLE.out)
            have HALL := Lib.hid (appL_all (h := hh) (M := x.L) HG.out HMM.out)
            obtain ⟨LL, hLL⟩ : ∃ z, appL hh L x.L = z := ⟨_, rfl⟩
            rw [hLL] at hcut HLLN HALL
            obtain ⟨w11, hw11⟩ : ∃ z, z = wc := ⟨_, rfl⟩
            rw [← hw11] at hcut ⊢
            have HST11 := Lib.hid hcut
            clear hLL hw11 HC10 HAT10 HR10 HND10 HGO2 HB10 HO2 HL10 HAE
            obtain ⟨N3, O3, R3, l1, l2, _, _, _, _, _, _, _⟩ := hcut
            obtain ⟨la3, lc3, rv, _, hcg, _, hown⟩ := l2
            obtain ⟨a3, d3, hrv⟩ := hown.form
            obtain ⟨n3, hn3⟩ : ∃ n, LL.length = n := ⟨_, rfl⟩
            rw [hn3] at hrv
            subst hrv
            have hn34 : n3 ≤ P2 := by rw [← hn3, ← HPP.out]; exact HLLN.out
            have c2 : w11.cell? ⟨g, 2, none⟩ = some (.slice la3 P2 lc3) := by rw [← HPP.out]; exact hcg.at 2
            have c3 : w11.cell? ⟨g, 3, none⟩ = some (.slice a3 n3 d3) := hcg.at 3
            have HX3 := Lib.hid (fun (w' : World) (b : Below w11.heap.size w11 w') => (b.cell (p := ⟨g, 3, none⟩) hcg.lt).trans c3)
            have HX2 := Lib.hid (fun (w' : World) (b : Below w11.heap.size w11 w') => (b.cell (p := ⟨g, 2, none⟩) hcg.lt).trans c2)
            have HLF := Lib.hid (fun (w' : World) (b : Below w11.heap.size w11 w') => show Calls Tryz.prog 13 #[.pointer (some av)] w' fun e w'' => e = .returned (.int .i64 (n3 : Int)) ∧ Below w'.heap.size w' w'' from by
              have q := dev_len w' (l1.below b)
              rw [hn3] at q
              exact q)
            have HRF := Lib.hid (fun (w' : World) (b : Below w11.heap.size w11 w') => show Calls Tryz.prog 14 #[.pointer (some av)] w' fun e w'' => e = .returned (.int .i64 ((P2 - n3 : Nat) : Int)) ∧ Below w'.heap.size w' w'' from by
              have q := dev_left w' (l1.below b) HLLN.out
              rw [hn3, HPP.out] at q
              exact q)
            have HDF := Lib.hid (diff_at P2 n3 hn34 (by have := HP24.out; rw [HPP.out] at this; omega))
            obtain ⟨df, hdf⟩ : ∃ z, P2 - n3 = z := ⟨_, rfl⟩
            rw [hdf] at HDF HRF
            have HN1 := Lib.hid (neq_same_int (n3 : Int))
            have HN2 := Lib.hid (neq_same_int (df : Int))
            clear hn34 c2 c3 hcg hown l1 hdf hn3
            go_upto_region 34 with (fail)
            refine wp_region_class (fun w' => Below w11.heap.size w11 w') (by kernel_rfl) (by kernel_rfl) (Below.refl _ _).drew ?_
            repeat (first
              | go_big_quiet_skip
              | (go_big_quiet_want; refine quiet_load_cell 35 _ rfl ⟨g, 3, none⟩ _ rfl HX3.out Tryz.isAgg35 ?_; go_big_quiet_on; simp only [Act.put, List.setIfInBounds_toArray, List.set_cons_zero, List.set_cons_succ])
              | (go_big_quiet_want; refine quiet_load_cell 34 _ rfl ⟨g, 2, none⟩ _ rfl HX2.out Tryz.isAgg34 ?_; go_big_quiet_on; simp only [Act.put, List.setIfInBounds_toArray, List.set_cons_zero, List.set_cons_succ])
              | (go_big_quiet_want; refine quiet_bin .neq 3 _ _ _ rfl (.int .i64 (n3 : Int)) (.int .i64 (n3 : Int)) _ rfl rfl (fun _ => rfl) HN1.out ?_; go_big_quiet_on; simp only [Act.put, List.setIfInBounds_toArray, List.set_cons_zero, List.set_cons_succ])
              | (go_big_quiet_want; refine quiet_bin .sub 3 _ _ _ rfl (.int .i64 (P2 : Int)) (.int .i64 (n3 : Int)) _ rfl rfl (fun _ => rfl) HDF.out ?_; go_big_quiet_on; simp only [Act.put, List.setIfInBounds_toArray, List.set_cons_zero, List.set_cons_succ])
              | (go_big_quiet_want; refine quiet_bin .neq 3 _ _ _ rfl (.int .i64 (df : Int)) (.int .i64 (df : Int)) _ rfl rfl (fun _ => rfl) HN2.out ?_; go_big_quiet_on; simp only [Act.put, List.setIfInBounds_toArray, List.set_cons_zero, List.set_cons_succ])
              | go_big_quiet_step ((intro hs'; first
                  | (go_at_call 13; exact (HLF.out _ hs').mono fun e w' h => ⟨h.1, hs'.trans (h.2.mono hs'.size)⟩)
                  | (go_at_call 14; exact (HRF.out _ hs').mono fun e w' h => ⟨h.1, hs'.trans (h.2.mono hs'.size)⟩)
                  | rfl)))
            refine wpQuiet_nil ?_
            intro w12 hs12
            have HST12 := Lib.hid (HST11.out.below (Nat.le_refl _) hs12)
            clear hs12 HX3 HX2 HLF HRF HDF HN1 HN2 HST11
            go_wp2_with fail
            exact ⟨⟨k + 1, by omega, by go_num, LL, HALL.out, HLLN.out, HST12.out⟩, by simp [intOf]; omega⟩
    · obtain rfl : k = ns := by omega
      have HZE := Lib.hid (show (Tryz.prog.info? 54).bind (·.zero) = some (.agg (entL noE).toArray) by kernel_rfl)
      have HSV := Lib.hid (sizeEV noE_ok)
      have HZI := Lib.hid (show (Tryz.prog.info? 43).bind (·.zero) = some (.agg (nums .u8 zeroI).toArray) by kernel_rfl)
      have HSI := Lib.hid (show (Tryz.prog.info? 43).map (·.size) = some (nums .u8 zeroI).toArray.size by kernel_rfl)
      have HVI := Lib.hid (show (nums .u8 zeroI).toArray.all (·.oneCell') = true from all_oneCell_toArray (nums_one _ _))
      clear HST HG HLE
      go_wp2_with fail
      refine (dev_at_nil wr).mono ?_
      rintro e x1 ⟨rfl, hb⟩
      have HX1 := Lib.hid (HBW.out.trans (hb.mono HBW.out.size))
      clear hb HBW
      go_wp2_with (first
        | (refine wpList_alloc_of rfl 54 rfl (entL noE) HZE.out ?_)
        | (refine wpList_store_cells rfl 54 _ _ rfl rfl x1.heap.size (entV noE) (entV noE) 54 rfl rfl (heap_alloc_new x1 _) HSV.out rfl (entV_all _) ?_))
      intro x2 hc hb
      have hb2 : Below x1.heap.size x1 x2 := But.toBelow ((Below.refl _ x1).alloc (Nat.le_refl _) _) hb.out (Nat.le_refl _) (by rw [World.size_alloc]; exact Nat.le_succ _)
      have HX2 := Lib.hid (HX1.out.trans (hb2.mono HX1.out.size))
      clear hc hb hb2 HX1
      go_wp2_with fail
      refine (dev_hash_nil x2).mono ?_
      rintro e x3 ⟨rfl, hb⟩
      have HX3 := Lib.hid (HX2.out.trans (hb.mono HX2.out.size))
      clear hb HX2
      go_wp2_with (first
        | (refine wpList_alloc_of rfl 43 rfl (nums .u8 zeroI) HZI.out ?_)
        | (refine wpList_store_cells rfl 43 _ _ rfl rfl x3.heap.size (nums .u8 zeroI).toArray (nums .u8 zeroI).toArray 43 rfl rfl (heap_alloc_new x3 _) HSI.out rfl HVI.out ?_))
      intro x4 hc hb
      have hb2 : Below x3.heap.size x3 x4 := But.toBelow ((Below.refl _ x3).alloc (Nat.le_refl _) _) hb.out (Nat.le_refl _) (by rw [World.size_alloc]; exact Nat.le_succ _)
      have HX4 := Lib.hid (HX3.out.trans (hb2.mono HX3.out.size))
      clear hc hb hb2 HX3
      go_wp2_with fail
      refine (dev_auth_nil x4).mono ?_
      rintro e x5 ⟨rfl, hb⟩
      have HX5 := Lib.hid (HX4.out.trans (hb.mono HX4.out.size))
      clear hb HX4
      go_wp2_with (first
        | (refine wpList_alloc_of rfl 45 rfl (autL noA) HZA.out ?_)
        | (refine wpList_store_cells rfl 45 _ _ rfl rfl x5.heap.size (autV noA) (autV noA) 45 rfl rfl (heap_alloc_new x5 _) (sizeAV (a := noA) zeroI_ok) rfl (autV_all _) ?_))
      intro x6 hc hb
      have hb2 : Below x5.heap.size x5 x6 := But.toBelow ((Below.refl _ x5).alloc (Nat.le_refl _) _) hb.out (Nat.le_refl _) (by rw [World.size_alloc]; exact Nat.le_succ _)
      have HX6 := Lib.hid (HX5.out.trans (hb2.mono HX5.out.size))
      clear hc hb hb2 HX5
      go_wp2_with fail
      refine (dev_new_nil x6).mono ?_
      rintro e x7 ⟨rfl, hb⟩
      have HX7 := Lib.hid (HX6.out.trans (hb.mono HX6.out.size))
      clear hb HX6
      go_wp2_with fail
      refine (dev_append_nil x7).mono ?_
      rintro e x8 ⟨rfl, hb⟩
      have HX8 := Lib.hid (HX7.out.trans (hb.mono HX7.out.size))
      clear hb HX7
      go_wp2_with fail
      refine (dev_len_nil x8).mono ?_
      rintro e x9 ⟨rfl, hb⟩
      have HX9 := Lib.hid (HX8.out.trans (hb.mono HX8.out.size))
      clear hb HX8
      go_wp2_with fail
      refine (dev_left_nil x9).mono ?_
      rintro e x10 ⟨rfl, hb⟩
      have HX10 := Lib.hid (HX9.out.trans (hb.mono HX9.out.size))
      clear hb HX9
      go_wp2_with fail
      refine (dev_part_nil x10).mono ?_
      rintro e x11 ⟨⟨pa, pc, rfl⟩, hb⟩
      have HX11 := Lib.hid (HX10.out.trans (hb.mono HX10.out.size))
      clear hb HX10
      go_wp2_with fail
      go_ret
      exact ⟨rfl, HX11.out⟩
end Go.Proofs.YtpfhlhcnmeodbaaGreatDoor.chainLogs
namespace Go.Proofs.YtpfhlhcnmeodbaaGreatDoor.chainLogs
open Go.ChangeShapes Go.WideShapes Go.ChangeAt Go.RowKit
open Go.ChangeMaps (open_string shut_string)
set_option linter.unusedVariables false
theorem laid_met (os : Os) : laidMet Tryz.prog Rows.chainLogsRow.laid ((laidWorld os).forCall (fun _ _ => 0) ⟨#[], #[.int .i64 0, .string ByteArray.empty, .int .i64 0, .slice none 0 0], []⟩).memory :=
  laidMet_of_run' 8 (by kernel_rfl) (by kernel_rfl)
theorem reads (os : Os) {H : Type} (enc : TypeId × Value → H) : ∃ x, DataW.whole enc Tryz.prog ((laidWorld os).forCall (fun _ _ => 0) ⟨#[], #[.int .i64 0, .string ByteArray.empty, .int .i64 0, .slice none 0 0], []⟩).memory Tryz.f3.params.toList Rows.chainLogsSpec.vars false (#[.int .i64 0, .string ByteArray.empty, .int .i64 0, .slice none 0 0] : Array Value).toList 8 = some x :=
  ⟨([.lit (.int .i64 0), .lit (.string []), .lit (.int .i64 0), .nil], [], []), by kernel_rfl⟩
set_option maxRecDepth 100000 in
theorem lifted (os : Os) (started : os.Started) (H : Type) (enc : TypeId × Value → H) (F : Stop.Interp) :
    ReturnsInHanded {} Tryz.checked os 3 .any ((OpenSpec.ofChange Rows.chainLogsSpec).preRow enc Tryz.prog Tryz.f3 Rows.chainLogsRow.domain false Rows.chainLogsRow.laid) (((OpenSpec.ofChange Rows.chainLogsSpec).at F).post enc Tryz.prog Tryz.f3 false true false false) := by
  obtain ⟨x, hx⟩ := reads os enc
  refine returnsInHanded_of_row (C := Tryz.checked) (s := OpenSpec.ofChange Rows.chainLogsSpec) law_own started (by kernel_rfl) Tryz.func3
    (witness_row_at (enc := enc) (C := Tryz.checked) false (laidWorld os) #[.int .i64 0, .string ByteArray.empty, .int .i64 0, .slice none 0 0] rfl (by kernel_rfl) (by kernel_rfl) (by kernel_rfl)
      (OpenSpec.preRow_of_cond 8 hx rfl (fun k hk => by cases hk) (by kernel_rfl) (laid_met os))) ?_
  intro W base args ds gs before hval0 hW hcnd _ hsz0 hL _ _
  have hk : KAt W := k_laid hL
  have hsz : (DataW.weightsEach Tryz.prog (Tryz.f3.params.toList ++ (OpenSpec.ofChange Rows.chainLogsSpec).bare.plain.varTypes Tryz.prog) (ds ++ gs)).all (· ≤ reachBytes) = true := hsz0
  have hval : ∀ (j : Nat) t v, Tryz.f3.params[j]? = some t → args[j]? = some v → Value.okWide Tryz.prog W .any base t v := hval0
  have hW' := hW
  obtain ⟨p, q, hA0, hV, rfl, hfz, hnd⟩ := hW
  have hA : DataW.TrodAll enc Tryz.prog W 0 (fun _ => true) true Tryz.f3.params.toList args.toList ds p := hA0
  rw [Tryz.params3] at hA hval hsz
  obtain ⟨v0, vs0, d0, ds0, p0, q0, hargs, rfl, rfl, h0, r0⟩ := trodAll_cons hA
  obtain ⟨v1, vs1, d1, ds1, p1, q1, rfl, rfl, rfl, h1, r1⟩ := trodAll_cons r0
  obtain ⟨v2, vs2, d2, ds2, p2, q2, rfl, rfl, rfl, h2, r2⟩ := trodAll_cons r1
  obtain ⟨v3, vs3, d3, ds3, p3, q3, rfl, rfl, rfl, h3, r3⟩ := trodAll_cons r2
  obtain ⟨rfl, rfl, rfl⟩ := trodAll_nil r3
  obtain rfl : args = #[v0, v1, v2, v3] := by cases args; simp_all
  obtain ⟨rfl, rfl⟩ := trodVars_none hV
  obtain ⟨a0, rfl, rfl, rfl, w0⟩ := open_int Tryz.underlying3 (hval 0 3 v0 rfl rfl) h0
  obtain ⟨a1, rfl, rfl, rfl, w1⟩ := open_string Tryz.underlying9 (hval 1 9 v1 rfl rfl) h1
  have z1 : a1.data.toList.length ≤ 140737488351232 := sized_string hsz (j := 1) (t := 9) rfl rfl
  obtain ⟨a2, rfl, rfl, rfl, w2⟩ := open_int Tryz.underlying3 (hval 2 3 v2 rfl rfl) h2
  have k3 := h3
  have lt3 : ∀ x ∈ p3, x.block < W.heap.size := by obtain ⟨m, hm⟩ := k3; exact DataW.trod_lt m _ _ _ hm
  have z3 : ∀ n ∈ DataW.weights Tryz.prog 22 d3, n ≤ 140737488351232 := fun n hn => of_decide_eq_true (List.all_eq_true.1 hsz n (DataW.weights_mem_each (j := 3) (t := 22) rfl rfl n hn))
  obtain ⟨ao3, l3, c3, rfl, s3, n3, t3⟩ := open_callGs (hval 3 22 v3 rfl rfl) h3 z3
  clear hA0 hval0
  refine (walk W hk a0 w0 a1.data.toList z1 a2 w2 ao3 l3 c3 s3 n3 t3).mono fun e W' ⟨he, bel⟩ => ?_
  subst he
  exact ⟨_, rfl, _, _, _, [], _, [], hW', trodAll_mk1 (shut_bool Tryz.underlying4 _), (trodAll_cons_mk (shut_int Tryz.underlying3 w0) (trodAll_cons_mk (shut_string Tryz.underlying9 w1) (trodAll_cons_mk (shut_int Tryz.underlying3 w2) (trodAll_cons_mk (Below.trod law_laidOut (by kernel_rfl) (of_decide_eq_true (by kernel_rfl)) k3 bel lt3) trodAll_mk0)))), rfl, bel.frame _, fun h => by cases h⟩
theorem said : Rows.ChainLogsSaid :=
  OpenClaim.holds_of_cond 3 Tryz.f3 rfl rfl rfl rfl rfl rfl rfl ⟨rfl, rfl, rfl, rfl, rfl⟩ rfl rfl rfl rfl rfl (by kernel_rfl) Tryz.func3 (by kernel_rfl)
    (of_decide_eq_true (by kernel_rfl)) (by unfold Func.isWrapper; first | (rw [if_pos (by decide +kernel)]; kernel_rfl) | (rw [if_neg (by decide +kernel)]; exact ⟨rfl, rfl⟩))
    (fun os started H enc _ F => by rw [OpenClaim.pre_eq_preRow]; exact lifted os started H enc F)
theorem plain (f : FuncId) (fn : Func) (hf : Tryz.pinned.checked.prog.funcNamed "tribunal/tribunallaw16.ChainLogs" = some f) (hfn : Tryz.pinned.checked.prog.funcs[f]? = some fn) :
    false = Tryz.pinned.checked.prog.looks [] ∧ ∀ (j : Nat) t, fn.params[j]? = some t → Tryz.pinned.checked.prog.wantsStandIn t = false := by
  obtain rfl : f = 3 := Option.some.inj ((show Tryz.prog.funcNamed "tribunal/tribunallaw16.ChainLogs" = some 3 by kernel_rfl).symm.trans hf) |>.symm
  obtain rfl : fn = Tryz.f3 := (Option.some.inj (Tryz.func3.symm.trans hfn)).symm
  refine ⟨by kernel_rfl, fun j t ht => ?_⟩
  have hall : Tryz.f3.params.toList.all (fun t => !Tryz.prog.wantsStandIn t) = true := by kernel_rfl
  have hm : t ∈ Tryz.f3.params.toList := Array.mem_toList_iff.2 (Array.mem_of_getElem? ht)
  have h0 := List.all_eq_true.1 hall t hm
  have h1 : Tryz.prog.wantsStandIn t = false := by simpa using h0
  exact h1
theorem proved : Rows.ChainLogsCardSaid :=
  Claim7.holds_tied_plain_at .later [] _ _ _ _ said (fun _ h => by cases h) (by kernel_rfl) (fun _ h => by cases h) chainLogs_row_tie rfl ⟨rfl, rfl⟩ (by kernel_rfl) rfl plain (by kernel_rfl)
#print axioms proved
end Go.Proofs.YtpfhlhcnmeodbaaGreatDoor.chainLogs
