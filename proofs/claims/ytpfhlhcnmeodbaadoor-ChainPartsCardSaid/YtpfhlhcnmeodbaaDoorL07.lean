/-
  Joined: The developers' log: Append. Written by chain/gen/gen_app.py.; What the laws of layer 16 ask first: alive, great.; An element's address, in a region whose order is open.; The walk of the law ChainParts.; The law ChainParts: for every input it answers true, and its arguments read as they did. Condition: the round constants' table lies as the program's text lays it (the card ties it).
-/
import Derived.Test.YtpfhlhcnmeodbaaDoorL01
import Derived.Test.YtpfhlhcnmeodbaaDoorL02
import Derived.Test.YtpfhlhcnmeodbaaDoorL03
import Derived.Test.YtpfhlhcnmeodbaaDoorL04
import Derived.Test.YtpfhlhcnmeodbaaDoorL05
import Derived.Test.YtpfhlhcnmeodbaaDoorL06
namespace Go.Proofs.YtpfhlhcnmeodbaaDoor
open Go.RowKit Go.BigFrame
theorem OwnI.rows {B : Nat} {e : TypeId} {v : Value} {L : List (List Nat)} {w : World} (h : OwnI B e v L w) : OwnR B 32 e v (L.map (nums .u8)) w := by
  unfold OwnR
  rw [List.length_map, ← List.flatMap_def]
  exact h
theorem OwnR.ids {B : Nat} {e : TypeId} {v : Value} {L : List (List Nat)} {w : World} (h : OwnR B 32 e v (L.map (nums .u8)) w) : OwnI B e v L w := by
  unfold OwnR at h
  rw [List.length_map, ← List.flatMap_def] at h
  exact h
theorem wide_ids {L : List (List Nat)} (h : Ids L) : Wide 32 (L.map (nums .u8)) := wide_map fun x hx => by rw [nums_len, (h x hx).1]
theorem OwnI.nocap {B : Nat} {e : TypeId} {n c : Nat} {L : List (List Nat)} {w : World} (h : OwnI B e (.slice none n c) L w) : c = 0 := by
  rcases h.2 with ⟨h1, _⟩ | ⟨g, cap, cur, h1, _⟩
  · simp only [Value.slice.injEq] at h1
    exact h1.2.2
  · cases h1
theorem op_push_ids {w : World} {o : Oper} {a : Act} {K : Act → World → Prop} {Q : Exit → Act → World → Prop} (hgd : o.guard = none) (s x : Operand) (ho : o.op = .call { callee := .builtin .append, args := #[s, x], argTypes := #[29, 29] })
    (B B2 : Nat) (v u : Value) (L M : List (List Nat)) (hM : Ids M) (hs : a.eval s = v) (hown : OwnI B 24 v L w) (hx : a.eval x = u) (hsrc : OwnI B2 24 u M w) (h63 : L.length + M.length ≤ 1000000) (hB : B ≤ w.heap.size)
    (h : ∀ v' w', OwnI B 24 v' (L ++ M) w' → w.grownBy w' v.ownBlock → (v'.ownBlock = v.ownBlock ∨ v'.ownBlock = some w.heap.size) → K (a.put o.dst v') w') : OpWp Tryd.prog o a w K Q := by
  obtain ⟨ao, c, rfl⟩ := hsrc.form
  refine op_of_list (ops := #[]) hgd (wpList_append_rowsv hgd s x 29 24 ho B 32 32 (.agg (nums .u8 (List.replicate 32 0)).toArray) rfl (by decide) (by decide) Tryd.underlying29 Tryd.infoI32 v (L.map (nums .u8)) (M.map (nums .u8)) (wide_ids hM) (fun y hy => by
    obtain ⟨c, hc, hy⟩ := List.mem_flatten.1 hy
    obtain ⟨e, _, rfl⟩ := List.mem_map.1 hc
    exact nums_one _ _ y hy) ao M.length c (by rw [List.length_map]) hs hown.rows hx (hsrc.rows.rat (wide_ids hM)) (fun e => by subst e; exact hsrc.nocap) (by rw [List.length_map, List.length_map]; exact h63) hB (fun v' w' h1 h2 h3 => ⟨rfl, h v' w' ?_ h2.out h3.out⟩))
  have q := h1.out
  rw [← List.map_append] at q
  exact q.ids
def AppM (w9 : World) (gH : Nat) (hs : List Nat) (W A : List (List Nat)) : Nat → Value → World → Prop
  | 0, _, w' => Below w9.heap.size w9 w'
  | 1, v, w' => v = .agg (nums .u8 hs).toArray ∧ Below w9.heap.size w9 w'
  | 2, v, w' => OwnI w9.heap.size 24 v W w' ∧ Below w9.heap.size w9 w'
  | _, v, w' => OwnI 0 24 v A w' ∧ (∀ z, v.ownBlock = some z → z = gH ∨ w9.heap.size ≤ z)
theorem field_logD3 (g : Nat) (w : World) : (Instr.fieldAt 102 (.pointer (some ⟨g, 0, none⟩)) 3).run Tryd.prog w = .ok (.pointer (some ⟨g, 3, none⟩)) w := by kernel_rfl
theorem index_id16 (b n c j : Nat) (hj : j < n) (w : World) : (Instr.indexAt 29 (.slice (some ⟨b, 0, none⟩) n c) (.int .i64 (j : Int))).run Tryd.prog w = .ok (.pointer (some ⟨b, j * 32, none⟩)) w := by
  have h1 : (j : Int) < (n : Int) := by omega
  go_simp
theorem rows_apart {K K2 : Nat} {e e2 : TypeId} {v v2 : Value} {C C2 : List (List Value)} {w : World} (h : RowK K e v C w) (h2 : RowK K2 e2 v2 C2 w) (hne : e ≠ e2) {z : Nat} (hz : v.ownBlock = some z) : v2.ownBlock ≠ some z := fun hu => by
  obtain ⟨c1, h3⟩ := h.heap hz
  obtain ⟨c2, h4⟩ := h2.heap hu
  rw [h3] at h4
  simp only [Option.some.injEq, Obj.cells.injEq] at h4
  exact hne h4.2.1
theorem appE_one {h : Nat} {L M : List EntN} {x : EntN} (hx : x ∈ M) (hg : ¬ GoodE x) : appE h L M = 1 := by rw [appE, if_neg (fun q => hg (q x hx))]
theorem appL_no {h : Nat} {L M : List EntN} (e : appE h L M ≠ 0) : appL h L M = L := by rw [appL, if_neg e]
theorem appL_yes {h : Nat} {L M : List EntN} (e : appE h L M = 0) : appL h L M = L ++ M := by rw [appL, if_pos e]
set_option maxHeartbeats 8000000 in
set_option maxRecDepth 100000 in
theorem dev_append {N : Nat} {O : Nat → Prop} {v : Value} {nd : Int} {seed : List UInt8} {h : Nat} {L : List EntN} (ao : Option Addr) (M : List EntN) (c : Nat) (w : World) (l : LogIs N O v nd seed h L w) (hl : L.length ≤ 2 ^ h) (_hL : ∀ x ∈ L, x.Len ∧ x.seq < 9223372036854775808) (hM : ∀ x ∈ M, x.Len ∧ x.seq < 9223372036854775808) (hn : M.length ≤ 1000000)
    (hat : EntsAt ao M w) (hnl : ao = none → c = 0) (hap : M ≠ [] → ∀ a, ao = some a → ¬ O a.block) (hk : KAt w) (hN : 0 < N) :
    Calls Tryd.prog 31 #[v, .slice ao M.length c] w fun e w' => e = .returned (.int .i64 (appE h L M : Nat)) ∧ ∃ O', LogIs N O' v nd seed h (appL h L M) w' ∧ Turn O O' w w' := by
  have HL := Lib.hid l
  have HLH := Lib.hid hl
  have HMM := Lib.hid hM
  have HAT := Lib.hid hat
  have HNL := Lib.hid hnl
  have HAP := Lib.hid hap
  have HK := Lib.hid hk
  have HKN := Lib.hid hN
  obtain ⟨va, rfl⟩ := l.ptr
  obtain ⟨m, hm⟩ : ∃ m, M.length = m := ⟨_, rfl⟩
  have HM := Shut.mk hm
  rw [hm] at hn ⊢
  have HZE := Lib.hid (show (Tryd.prog.info? 35).bind (·.zero) = some (.agg (entL noE).toArray) by kernel_rfl)
  clear l hl hM hat hnl hap hk hN hm
  go_enter Tryd.func31, Tryd.ntmps31
  go_wp2_with fail
  go_loopw [12] (fun i wr => ∃ k : Nat, k ≤ m ∧ i = .int .i64 k ∧ (∀ x ∈ M.take k, GoodE x) ∧ Below w.heap.size w wr) (fun i _ => m - (intOf i).toNat)
  case atStart => exact ⟨0, Nat.zero_le _, rfl, (fun x hx => by cases hx), Below.refl _ _⟩
  case round =>
    obtain ⟨k, hk, rfl, hg, hb⟩ := hrel
    have HG := Lib.hid hg
    have HBW := Lib.hid hb
    have HATW := Lib.hid (HAT.out.below hb)
    have HLW := Lib.hid (HL.out.below hb)
    have HKW := Lib.hid (HK.out.below hb)
    clear hb hg
    by_cases hkm : k < m
    · obtain ⟨y, hy⟩ : ∃ y, M[k]? = some y := ⟨_, List.getElem?_eq_getElem (by rw [HM.out]; exact hkm)⟩
      have HYM := Lib.hid (List.mem_of_getElem? hy)
      have HY := Lib.hid (HMM.out y HYM.out)
      have HTK := Lib.hid (show M.take (k + 1) = M.take k ++ [y] by
        have h1 : M[k]'(by rw [HM.out]; exact hkm) = y := by
          rw [List.getElem?_eq_getElem (by rw [HM.out]; exact hkm)] at hy
          exact Option.some.inj hy
        rw [List.take_succ_eq_append_getElem (by rw [HM.out]; exact hkm), h1])
      obtain ⟨bb, ob, rfl, hbl, hr⟩ := HATW.out.getM hy
      have HR := Lib.hid hr
      have HSL := Lib.hid (sizeEL HY.out.1.ok)
      have HSV := Lib.hid (sizeEV HY.out.1.ok)
      have HGD := Lib.hid (fun w' => dev_good15 y HY.out.1 w')
      obtain ⟨g, hgd⟩ : ∃ g, decide (GoodE y) = g := ⟨_, rfl⟩
      have HGG := Shut.mk hgd
      rw [hgd] at HGD
      clear hy hbl hr hgd
      go_wp2_with (first
        | (refine wpList_load_mid rfl 35 _ rfl bb (ob + k * 73) rfl _ _ HR.out Tryd.underlying35 rfl HSL.out ?_)
        | (refine wpList_alloc_of rfl 35 rfl (entL noE) HZE.out ?_)
        | (refine wpList_store_cells rfl 35 _ _ rfl rfl wr.heap.size (entV noE) (entV y) 35 rfl rfl (heap_alloc_new wr _) HSV.out (by rw [entV_size HY.out.1.ok]; rfl) (entV_all y) ?_))
      intro w4 hc hb
      have hb4 : Below wr.heap.size wr w4 := But.toBelow ((Below.refl _ wr).alloc (Nat.le_refl _) _) hb.out (Nat.le_refl _) (by rw [World.size_alloc]; exact Nat.le_succ _)
      have HC4 := Lib.hid hc.out
      have HB4 := Lib.hid (HBW.out.trans (hb4.mono HBW.out.size))
      obtain ⟨g5, hg5⟩ : ∃ g, wr.heap.size = g := ⟨_, rfl⟩
      rw [hg5] at HC4 ⊢
      clear hc hb hb4 hg5 HR HSL
      go_wp2_with (refine wpList_load_cells rfl 35 _ rfl g5 (entV y) 35 _ rfl HC4.out Tryd.underlying35 rfl HSV.out ?_)
      refine (HGD.out w4).mono ?_
      rintro r w5 ⟨rfl, hb⟩
      have HB5 := Lib.hid (HB4.out.trans (hb.mono HB4.out.size))
      clear hb HB4 HC4
      cases g with
      | false =>
        have HA := Shut.mk (appE_one (h := h) (L := L) HYM.out (of_decide_eq_false HGG.out))
        go_wp2_with fail
        go_ret
        exact ⟨by rw [HA.out]; rfl, _, by rw [appL_no (by rw [HA.out]; decide)]; exact HL.out.below HB5.out, Turn.of HB5.out⟩
      | true =>
        go_wp2_with fail
        exact ⟨⟨k + 1, by omega, by go_num, fun x hx => by
          rw [HTK.out] at hx
          rcases List.mem_append.1 hx with hx | hx
          · exact HG.out x hx
          · obtain rfl := List.mem_singleton.1 hx
            exact of_decide_eq_true HGG.out, HB5.out⟩, by simp [intOf]; omega⟩
    · obtain rfl : k = m := by omega
      have HGA := Lib.hid (show ∀ x ∈ M, GoodE x from fun x hx => HG.out x (by rw [List.take_of_length_le (by rw [HM.out]; exact Nat.le_refl _)]; exact hx))
      have HLF := Lib.hid (fun w' (b : Below wr.heap.size wr w') => dev_left w' (HLW.out.below b) HLH.out)
      have HLE := Lib.hid (fun w' (b : Below wr.heap.size wr w') => dev_len w' (HLW.out.below b))
      obtain ⟨n, hnn⟩ : ∃ n, L.length = n := ⟨_, rfl⟩
      obtain ⟨P2, hP2⟩ : ∃ n, 2 ^ h = n := ⟨_, rfl⟩
      have HN := Shut.mk hnn
      have HP2 := Shut.mk hP2
      have HNP := Lib.hid (show n ≤ P2 by rw [← hnn, ← hP2]; exact HLH.out)
      rw [hnn, hP2] at HLF
      rw [hnn] at HLE
      clear hnn hP2 HG HZE
      go_wp2_with fail
      refine (HLF.out wr (Below.refl _ _)).mono ?_
      rintro r w6 ⟨rfl, hb6⟩
      have HB6 := Lib.hid hb6
      clear hb6 HLF
      by_cases hsp : P2 - n < k
      · have HA := Shut.mk (show appE h L M = 8 by rw [appE, if_pos HGA.out, if_neg (by rw [HN.out, HM.out, HP2.out]; have := HNP.out; omega)])
        have hsq : ((P2 - n : Nat) : Int) < (k : Int) := by omega
        go_wp2_with fail
        go_ret
        exact ⟨by rw [HA.out]; rfl, _, by rw [appL_no (by rw [HA.out]; decide)]; exact HL.out.below (HBW.out.trans (HB6.out.mono HBW.out.size)), Turn.of (HBW.out.trans (HB6.out.mono HBW.out.size))⟩
      have HA := Shut.mk (show appE h L M = 0 by rw [appE, if_pos HGA.out, if_pos (by rw [HN.out, HM.out, HP2.out]; have := HNP.out; omega)])
      have HAL := Shut.mk (appL_yes HA.out)
      have hsq : ¬ ((P2 - n : Nat) : Int) < (k : Int) := by omega
      have HSP := Lib.hid (show n + k ≤ P2 by have := HNP.out; omega)
      go_wp2_with fail
      refine (HLE.out w6 HB6.out).mono ?_
      rintro r w9 ⟨rfl, hb9⟩
      have HB9 := Lib.hid (HBW.out.trans ((HB6.out.trans (hb9.mono HB6.out.size)).mono HBW.out.size))
      clear hb9 HB6 HBW HLW HKW HATW HLE hsp
      obtain ⟨b, kv, vL, vH, hv, hO, la⟩ := HL.out.below HB9.out
      cases hv
      have HLA := Lib.hid la
      have HO := Shut.mk hO
      obtain ⟨gH, cH, rfl, -, hgl⟩ := la.ids.formB (by rw [allH_len]; exact Nat.succ_pos _)
      obtain ⟨n1, hn1⟩ : ∃ x, (allH L).length = x := ⟨_, rfl⟩
      have HN1 := Shut.mk hn1
      have HNN1 := Lib.hid (show n1 = n + 1 by rw [← hn1, allH_len, HN.out])
      rw [hn1] at HLA HO
      have HGL := Lib.hid hgl
      have HIDS := Lib.hid HLA.out.ids
      have HK9 := Lib.hid (HK.out.below HB9.out)
      have HATX := Lib.hid (HAT.out.below HB9.out)
      have h8 := two_le HLA.out.key.high
      rw [HP2.out] at h8
      have hnk : n ≤ 256 := by have := HNP.out; omega
      have hkk : k ≤ 256 := by omega
      have hn256 : n + k ≤ 256 := by have := HNP.out; omega
      have HBLT := Lib.hid HLA.out.cells.lt
      have HBGH := Lib.hid (show b ≠ gH from fun e => (HIDS.out.rows.row.notCells HLA.out.cells (by decide)) (by rw [e]; rfl))
      have HC3 := Lib.hid (fun (w' : World) (q : Only (fun x => x = gH) w9 w') => show w'.cell? ⟨b, 3, none⟩ = some (.slice (some ⟨gH, 0, none⟩) n1 cH) from (HLA.out.cells.only q HBGH.out).at 3)
      have HIX := Lib.hid (index_id16 gH n1 cH n (by rw [HNN1.out]; exact Nat.lt_succ_self n))
      have HFD := Lib.hid (fun w => field_logD3 b w)
      have HHS := Lib.hid (hashL_ok L n)
      have HRG := Lib.hid (fun (w' : World) (q : Below w9.heap.size w9 w') => show w'.rangeAt gH (n * 32) (nums .u8 (hashL L n)) from by
        have h1 := IAt.get ((HIDS.out.below q).at (allH_ok L)) (i := n) (by rw [HN1.out, HNN1.out]; exact Nat.lt_succ_self n)
        rw [allH_getD L (by rw [HN.out]; exact Nat.le_refl n), Nat.zero_add] at h1
        exact h1)
      have HSI := Lib.hid (show (Tryd.prog.info? 24).map (·.size) = some (hashL L n).length by rw [HHS.out.1]; exact Tryd.sizeI)
      have HAD := Lib.hid (show ∀ w, (binOp .add 3 (.int .i64 (n : Int)) (.int .i64 1)).run Tryd.prog w = .ok (.int .i64 ((n : Int) + 1)) w from fun w => by go_simp; rw [IntWalk.i64_left, IntWalk.wrap64_in _ (by omega)])
      have HWK := Lib.hid (fun (w' : World) (q : Below w9.heap.size w9 w') => dev_walk16 (hashL L n) ((n : Int) + 1) ao M c w' HHS.out (by omega) (by rw [HM.out]; omega) HMM.out (by rw [HM.out]; omega) (HATX.out.below q) (HK9.out.below q))
      rw [HM.out] at HWK
      have HEL := Shut.mk (show allH L ++ leadN (hashL L n) ((n : Int) + 1) M = allH (L ++ M) by rw [allH_app, HN.out, show 1 + (n : Int) = (n : Int) + 1 by omega])
      have HWL := Lib.hid (show (leadN (hashL L n) ((n : Int) + 1) M).length = k by rw [leadN_len, HM.out])
      have HWI := Lib.hid (show Ids (leadN (hashL L n) ((n : Int) + 1) M) from leadN_ok _ _ _)
      obtain ⟨W, hW⟩ : ∃ x, leadN (hashL L n) ((n : Int) + 1) M = x := ⟨_, rfl⟩
      rw [hW] at HWK HEL HWL HWI
      obtain ⟨hs, hhs⟩ : ∃ x, hashL L n = x := ⟨_, rfl⟩
      rw [hhs] at HRG HSI HWK
      clear hW hhs la hO hgl hn1 HL HAT HK hsq h8
      go_upto_region 12 with (fail)
      refine wp_region_free 19 (fun q V w' => Vals q V [(0, .pointer (some ⟨b, 0, none⟩)), (1, .pointer (some ⟨b, 0, none⟩)), (2, .pointer (some ⟨b, 0, none⟩)), (3, .pointer (some ⟨b, 3, none⟩)), (4, .slice (some ⟨gH, 0, none⟩) n1 cH), (5, .pointer (some ⟨b, 0, none⟩)), (6, .pointer (some ⟨b, 0, none⟩)), (7, .pointer (some ⟨b, 3, none⟩)), (8, .slice (some ⟨gH, 0, none⟩) n1 cH), (9, .int .i64 (n : Int)), (10, .pointer (some ⟨gH, n * 32, none⟩)), (12, .int .i64 (n : Int)), (13, .int .i64 ((n : Int) + 1)), (14, .slice ao k c), (17, .pointer (some ⟨b, 0, none⟩)), (18, .pointer (some ⟨b, 3, none⟩))] ∧ Only (fun x => x = gH) w9 w' ∧ Chain [11, 15, 16] (fun w' => Only (fun x => x = gH) w9 w') (AppM w9 gH hs W (allH (L ++ M))) q V w') (fun _ => undef) (by kernel_rfl) (by kernel_rfl) (by kernel_rfl) (by simp only [List.take_succ_cons, List.take_zero, putAll, Act.put, List.setIfInBounds_toArray, List.set_cons_zero, List.set_cons_succ]) ⟨Vals.none, Only.of (Below.refl _ _).drew, Chain.none (Only.of (Below.refl _ _).drew) (fun _ => (Below.refl _ _).drew)⟩ ?_ ?_
      · simp only [List.take_succ_cons, List.take_zero, putAll, Nat.zero_add, Nat.reduceAdd, Act.put, List.setIfInBounds_toArray, List.set_cons_zero, List.set_cons_succ]
        refine FreeSteps.cons ?_ (FreeSteps.cons ?_ (FreeSteps.cons ?_ (FreeSteps.cons ?_ (FreeSteps.cons ?_ (FreeSteps.cons ?_ (FreeSteps.cons ?_ (FreeSteps.cons ?_ (FreeSteps.cons ?_ (FreeSteps.cons ?_ (FreeSteps.cons ?_ (FreeSteps.cons ?_ (FreeSteps.cons ?_ (FreeSteps.cons ?_ (FreeSteps.cons ?_ (FreeSteps.cons ?_ (FreeSteps.cons ?_ (FreeSteps.cons ?_ (FreeSteps.cons ?_ (FreeSteps.nil)))))))))))))))))))
        all_goals (refine FreeStep.fresh rfl ?_; rintro q V wq hr hu ⟨hVs, hb, hch⟩ K hK)
        · exact op_move (.tmp 0) rfl _ rfl (hK _ _ ⟨hVs.set rfl, hb, hch.ne (by decide) (by decide)⟩)
        · exact op_move (.tmp 0) rfl _ rfl (hK _ _ ⟨hVs.set rfl, hb, hch.ne (by decide) (by decide)⟩)
        · exact op_nilCheck (.tmp 28) rfl ⟨b, 0, none⟩ (hVs.get 1 (hr { on := 1, ground := .data } (by simp) rfl) rfl) (hK _ _ ⟨hVs.set rfl, hb, hch.ne (by decide) (by decide)⟩)
        · exact op_fieldAt 102 (.tmp 29) 3 rfl _ _ (hVs.get 2 (hr { on := 2, ground := .data } (by simp) rfl) rfl) HFD.out (hK _ _ ⟨hVs.set rfl, hb, hch.ne (by decide) (by decide)⟩)
        · exact op_load_cell 29 (.tmp 30) rfl _ _ (hVs.get 3 (hr { on := 3, ground := .data } (by simp) rfl) rfl) (HC3.out wq hb) Tryd.isAgg29 (hK _ _ ⟨hVs.set rfl, hb, hch.ne (by decide) (by decide)⟩)
        · exact op_move (.tmp 0) rfl _ rfl (hK _ _ ⟨hVs.set rfl, hb, hch.ne (by decide) (by decide)⟩)
        · exact op_nilCheck (.tmp 32) rfl ⟨b, 0, none⟩ (hVs.get 5 (hr { on := 5, ground := .data } (by simp) rfl) rfl) (hK _ _ ⟨hVs.set rfl, hb, hch.ne (by decide) (by decide)⟩)
        · exact op_fieldAt 102 (.tmp 33) 3 rfl _ _ (hVs.get 6 (hr { on := 6, ground := .data } (by simp) rfl) rfl) HFD.out (hK _ _ ⟨hVs.set rfl, hb, hch.ne (by decide) (by decide)⟩)
        · exact op_load_cell 29 (.tmp 34) rfl _ _ (hVs.get 7 (hr { on := 7, ground := .data } (by simp) rfl) rfl) (HC3.out wq hb) Tryd.isAgg29 (hK _ _ ⟨hVs.set rfl, hb, hch.ne (by decide) (by decide)⟩)
        · exact op_move (.tmp 7) rfl _ rfl (hK _ _ ⟨hVs.set rfl, hb, hch.ne (by decide) (by decide)⟩)
        · exact op_indexAt 29 (.tmp 35) (.tmp 36) rfl _ (.int .i64 (n : Int)) _ (hVs.get 8 (hr { on := 8, ground := .data } (by simp) rfl) rfl) (hVs.get 9 (hr { on := 9, ground := .data } (by simp) rfl) rfl) HIX.out (hK _ _ ⟨hVs.set rfl, hb, hch.ne (by decide) (by decide)⟩)
        · have hm : Below w9.heap.size w9 wq := hch.at 0 (by decide) hu (.inl rfl)
          refine op_load_id 24 (.tmp 37) rfl gH (n * 32) hs _ (hVs.get 10 (hr { on := 10, ground := .data } (by simp) rfl) rfl) (HRG.out wq hm) Tryd.underlying24 rfl HSI.out ?_
          have hc1 := hch.step (v := .agg (nums .u8 hs).toArray) 0 (by decide) (by decide) hu (.inl rfl) hb ⟨rfl, hm⟩
          exact (hK _ _ ⟨hVs.off rfl, hb, hc1⟩)
        · exact op_move (.tmp 7) rfl _ rfl (hK _ _ ⟨hVs.set rfl, hb, hch.ne (by decide) (by decide)⟩)
        · exact op_bin .add 3 3 (.tmp 39) _ rfl _ _ _ (hVs.get 12 (hr { on := 12, ground := .data } (by simp) rfl) rfl) rfl (fun w => rfl) HAD.out (hK _ _ ⟨hVs.set rfl, hb, hch.ne (by decide) (by decide)⟩)
        · exact op_move (.tmp 1) rfl _ rfl (hK _ _ ⟨hVs.set rfl, hb, hch.ne (by decide) (by decide)⟩)
        · obtain ⟨hv1, hm⟩ : AppM w9 gH hs W (allH (L ++ M)) 1 (V 11) wq := hch.at 1 (by decide) hu (.inr (hr { on := 11, ground := .data } (by simp) rfl))
          refine op_call Tryd.func10 rfl rfl rfl [.agg (nums .u8 hs).toArray, .int .i64 ((n : Int) + 1), .slice ao k c] (cons_eq hv1 (cons_eq (hVs.get 13 (hr { on := 13, ground := .data } (by simp) rfl) rfl) (cons_eq (hVs.get 14 (hr { on := 14, ground := .data } (by simp) rfl) rfl) rfl))) (HWK.out wq hm) ?_
          rintro e w' ⟨⟨u, rfl, hrow⟩, hb'⟩
          have hbn : Below w9.heap.size w9 w' := hm.trans (hb'.mono hm.size)
          have hc2 := hch.step (v := u) 1 (by decide) (by decide) hu (.inr (hr { on := 11, ground := .data } (by simp) rfl)) (Only.of hbn) ⟨hrow.mono hm.size, hbn⟩
          exact ⟨_, rfl, (hK _ _ ⟨hVs.off rfl, Only.of hbn, hc2⟩)⟩
        · obtain ⟨hrow, hm⟩ : AppM w9 gH hs W (allH (L ++ M)) 2 (V 15) wq := hch.at 2 (by decide) hu (.inr (hr { on := 15, ground := .data } (by simp) rfl))
          refine op_push_ids rfl (.tmp 31) (.tmp 42) rfl 0 w9.heap.size (.slice (some ⟨gH, 0, none⟩) n1 cH) (V 15) (allH L) W HWI.out (hVs.get 4 (hr { on := 4, ground := .data } (by simp) rfl) rfl) (HIDS.out.below hm) rfl hrow (by rw [HN1.out, HNN1.out, HWL.out]; omega) (Nat.zero_le _) ?_
          intro v' w' ho' hg' hd'
          rw [HEL.out] at ho'
          have hbn : Only (fun x => x = gH) w9 w' := (Only.of (O := fun x => x = gH) hm).grown hg' (fun z hz => by cases hz; exact .inl rfl)
          have hc3 := hch.step (v := v') 2 (by decide) (by decide) hu (.inr (hr { on := 15, ground := .data } (by simp) rfl)) hbn ⟨ho', fun z hz => by
            rcases hd' with e | e
            · rw [hz] at e; cases e; exact .inl rfl
            · rw [hz] at e; cases e; exact .inr hm.size⟩
          exact (hK _ _ ⟨hVs.off rfl, hbn, hc3⟩)
        · exact op_nilCheck (.tmp 27) rfl ⟨b, 0, none⟩ (hVs.get 0 (hr { on := 0, ground := .data } (by simp) rfl) rfl) (hK _ _ ⟨hVs.set rfl, hb, hch.ne (by decide) (by decide)⟩)
        · exact op_fieldAt 102 (.tmp 44) 3 rfl _ _ (hVs.get 17 (hr { on := 17, ground := .data } (by simp) rfl) rfl) HFD.out (hK _ _ ⟨hVs.set rfl, hb, hch.ne (by decide) (by decide)⟩)
      rintro q V wq hall ⟨hVs, hb, hch⟩
      have v0 := hVs.get 0 (hall 0 (by decide)) rfl
      have v1 := hVs.get 1 (hall 1 (by decide)) rfl
      have v2 := hVs.get 2 (hall 2 (by decide)) rfl
      have v3 := hVs.get 3 (hall 3 (by decide)) rfl
      have v4 := hVs.get 4 (hall 4 (by decide)) rfl
      have v5 := hVs.get 5 (hall 5 (by decide)) rfl
      have v6 := hVs.get 6 (hall 6 (by decide)) rfl
      have v7 := hVs.get 7 (hall 7 (by decide)) rfl
      have v8 := hVs.get 8 (hall 8 (by decide)) rfl
      have v9 := hVs.get 9 (hall 9 (by decide)) rfl
      have v10 := hVs.get 10 (hall 10 (by decide)) rfl
      obtain ⟨u11, v11⟩ : ∃ v, V 11 = v := ⟨_, rfl⟩
      have v12 := hVs.get 12 (hall 12 (by decide)) rfl
      have v13 := hVs.get 13 (hall 13 (by decide)) rfl
      have v14 := hVs.get 14 (hall 14 (by decide)) rfl
      obtain ⟨u15, v15⟩ : ∃ v, V 15 = v := ⟨_, rfl⟩
      obtain ⟨u16, v16⟩ : ∃ v, V 16 = v := ⟨_, rfl⟩
      have v17 := hVs.get 17 (hall 17 (by decide)) rfl
      have v18 := hVs.get 18 (hall 18 (by decide)) rfl
      obtain ⟨hrow, hnew⟩ : AppM w9 gH hs W (allH (L ++ M)) 3 (V 16) wq := hch.fin (fun p hp => by match p, hp with | 0, _ => exact hall 11 (by decide) | 1, _ => exact hall 15 (by decide) | 2, _ => exact hall 16 (by decide))
      rw [v16] at hrow hnew
      simp only [List.take_succ_cons, List.take_zero, List.drop_succ_cons, List.drop_zero, putAll, Nat.zero_add, Nat.reduceAdd, v0, v1, v2, v3, v4, v5, v6, v7, v8, v9, v10, v11, v12, v13, v14, v15, v16, v17, v18, Act.put, List.setIfInBounds_toArray, List.set_cons_zero, List.set_cons_succ]
      clear hVs v0 v1 v2 v3 v4 v5 v6 v7 v8 v9 v10 v11 v12 v13 v14 v15 v16 v17 v18 hall
      obtain ⟨a4, c4, hu⟩ := hrow.form
      obtain ⟨n2, hn2⟩ : ∃ x, (allH (L ++ M)).length = x := ⟨_, rfl⟩
      rw [hn2] at hu
      subst hu
      have HROW := Lib.hid hrow
      have HNEW := Lib.hid hnew
      have HON := Lib.hid hb
      have hcs := HLA.out.cells.only hb HBGH.out
      have HCS := Lib.hid hcs
      have cf := HC3.out wq hb
      have ff := hcs.frozen 3
      clear hch hrow hb hnew hcs hn2 HC3 HIX HFD HRG HSI HAD HWK HEL
      go_upto_region 13 with (fail)
      obtain ⟨wx, hwx⟩ : ∃ x, x = wq.setCell ⟨b, 3, none⟩ (.slice (some ⟨gH, 0, none⟩) n1 cH) := ⟨_, rfl⟩
      clear hwx wx
      have hbelow : ∀ x, (x = gH ∨ x = b) → O x := fun x hx => by
        rw [HO.out]
        rcases hx with rfl | rfl
        · exact .inr (.inr rfl)
        · exact .inl rfl
      have hon10 : Only (fun x => x = gH ∨ x = b) w9 (wq.setCell ⟨b, 3, none⟩ (.slice a4 n2 c4)) := Only.setCell ⟨HON.out.os, HON.out.tape, HON.out.output, HON.out.size, fun k hk hn => HON.out.block k hk (fun e => hn (.inl e))⟩ 3 _ (.inl (.inr rfl))
      have hc10 := HCS.out.set 3 (.slice a4 n2 c4)
      have hr10 : OwnI 0 24 (.slice a4 n2 c4) (allH (L ++ M)) (wq.setCell ⟨b, 3, none⟩ (.slice a4 n2 c4)) := HROW.out.only16 (P := fun x => x = b) ((Only.refl _ wq).setCell 3 _ (.inl rfl)) (fun z hz e => HROW.out.rows.row.notCells HCS.out (by decide) (e ▸ hz))
      obtain ⟨w10, hw10⟩ : ∃ x, x = wq.setCell ⟨b, 3, none⟩ (.slice a4 n2 c4) := ⟨_, rfl⟩
      rw [← hw10] at hon10 hc10 hr10 ⊢
      clear hw10 cf ff
      have HR10 := Lib.hid hr10
      have HC10 := Lib.hid hc10
      have HON10 := Lib.hid hon10
      have hat10 : EntsAt ao M w10 := by
        rcases HATX.out with h0 | ⟨bb, oo, ha, hlt, hc⟩
        · exact .inl h0
        · by_cases hM0 : M = []
          · exact .inl (by rw [hM0]; rfl)
          · exact .inr ⟨bb, oo, ha, Nat.lt_of_lt_of_le hlt hon10.size, fun i c hc' j v hv => (World.cell?_of_block (w := w9) (a := ⟨bb, oo + i * 73 + j, none⟩) (hon10.block bb hlt (fun e => HAP.out hM0 _ ha (hbelow bb e)))).trans (hc i c hc' j v hv)⟩
      have HAT10 := Lib.hid hat10
      obtain ⟨aL, cL, rfl⟩ := HLA.out.ents.form
      have HPL := Lib.hid (show ∀ z, (Value.slice aL L.length cL).ownBlock = some z → z ≠ gH ∧ z ≠ b from fun z hz => ⟨fun e => rows_apart HLA.out.ents.1.row HIDS.out.rows.row (by decide) hz (by rw [e]; rfl), fun e => HLA.out.ents.1.row.notCells HLA.out.cells (by decide) (e ▸ hz)⟩)
      have HE10 := Lib.hid (HLA.out.ents.1.only hon10 (fun z hz e => by
        rcases e with e | e
        · exact (HPL.out z hz).1 e
        · exact (HPL.out z hz).2 e))
      have HEOK := Lib.hid HLA.out.ents.2
      have c2 : w10.cell? ⟨b, 2, none⟩ = some (.slice aL n cL) := by
        rw [← HN.out]
        exact hc10.at 2
      obtain ⟨bytes, hby, hinfo⟩ := Tryd.infoE73
      have HBY := Lib.hid hby
      have HIN := Lib.hid hinfo
      have HBGL := Lib.hid (show ∀ z, (Value.slice aL n cL).ownBlock = some z → z ≠ gH ∧ z ≠ b from fun z hz => HPL.out z (by rw [HN.out]; exact hz))
      have HE10n := Lib.hid (show OwnR 0 73 35 (.slice aL n cL) (L.map entL) w10 from by rw [← HN.out]; exact HE10.out)
      clear hby hinfo hon10 hc10 hr10 hat10
      go_wp2_with (refine wpList_append_rowsv rfl _ _ 23 35 rfl 0 73 bytes _ rfl (by decide) HBY.out Tryd.underlying23 HIN.out (.slice aL n cL) (L.map entL) (M.map entL) (wide_map fun x hx => entL_len (HMM.out x hx).1.ok) flat_one ao k c (by rw [List.length_map, HM.out]) rfl HE10n.out rfl HAT10.out HNL.out (by rw [List.length_map, List.length_map, HN.out, HM.out]; omega) (Nat.zero_le _) ?_)
      intro v11 w11 ho hg hd
      obtain ⟨a5, c5, hu5⟩ := ho.out.form
      obtain ⟨n5, hn5⟩ : ∃ x, (L.map entL ++ M.map entL).length = x := ⟨_, rfl⟩
      rw [hn5] at hu5
      subst hu5
      clear hn5
      have HO11 := Lib.hid ho.out
      have HG11 := Lib.hid hg.out
      have HD11 := Lib.hid hd.out
      have hc11 : Cells b 102 _ w11 := HC10.out.only ((Only.refl (fun x => (Value.slice aL n cL).ownBlock = some x) w10).grown hg.out (fun _ h => .inl h)) (fun e => (HBGL.out b e).2 rfl)
      have HC11 := Lib.hid hc11
      have cf : w11.cell? ⟨b, 2, none⟩ = some (.slice aL n cL) := by
        rw [← HN.out]
        exact hc11.at 2
      have ff := hc11.frozen 2
      clear ho hg hd hc11 c2
      go_wp2_with fail
      go_ret
      have hc12 := HC11.out.set 2 (.slice a5 n5 c5)
      have ho12 : OwnR 0 73 35 (.slice a5 n5 c5) (L.map entL ++ M.map entL) (w11.setCell ⟨b, 2, none⟩ (.slice a5 n5 c5)) := HO11.out.only (O := fun x => x = b) ((Only.refl _ w11).setCell 2 _ (.inl rfl)) (fun z hz e => HO11.out.row.notCells HC11.out (by decide) (e ▸ hz))
      have hon11 : Only (fun x => x = gH ∨ x = b ∨ (Value.slice aL n cL).ownBlock = some x) w9 w11 := Only.grown ⟨HON10.out.os, HON10.out.tape, HON10.out.output, HON10.out.size, fun k hk hn => HON10.out.block k hk (fun e => hn (e.elim .inl (fun e => .inr (.inl e))))⟩ HG11.out (fun z hz => .inl (.inr (.inr hz)))
      have hon12 : Only (fun x => x = gH ∨ x = b ∨ (Value.slice aL n cL).ownBlock = some x) w9 (w11.setCell ⟨b, 2, none⟩ (.slice a5 n5 c5)) := hon11.setCell 2 _ (.inl (.inr (.inl rfl)))
      have hPO : ∀ x, (x = gH ∨ x = b ∨ (Value.slice aL n cL).ownBlock = some x) → O x := fun x hx => by
        rw [HO.out]
        rcases hx with hx | hx | hx
        · exact .inr (.inr (by rw [hx]; rfl))
        · exact .inl hx
        · exact .inr (.inl (by rw [HN.out]; exact hx))
      have hON : ∀ x, O x → N ≤ x := fun x hx => HLA.out.late x (by rw [← HO.out]; exact hx)
      have hN9 : N ≤ w9.heap.size := Nat.le_of_lt (Nat.lt_of_le_of_lt (hON b (hPO b (.inr (.inl rfl)))) HBLT.out)
      have hid12 : OwnI 0 24 (.slice a4 n2 c4) (allH (L ++ M)) (w11.setCell ⟨b, 2, none⟩ (.slice a5 n5 c5)) := HR10.out.only16 (P := fun x => (Value.slice aL n cL).ownBlock = some x ∨ x = b) (((Only.refl _ w10).grown HG11.out (fun z hz => .inl (.inl hz))).setCell 2 _ (.inl (.inr rfl))) (fun z hz e => by
        rcases e with e | e
        · exact rows_apart HE10n.out.row HR10.out.rows.row (by decide) e hz
        · exact HR10.out.rows.row.notCells HC10.out (by decide) (e ▸ hz))
      have hown : ∀ x, logO b (.slice a5 n5 c5) (.slice a4 n2 c4) x → O x ∨ w9.heap.size ≤ x := fun x hx => by
        rcases hx with hx | hx | hx
        · exact .inl (hPO x (.inr (.inl hx)))
        · rcases HD11.out with e | e
          · exact .inl (hPO x (.inr (.inr (by rw [← e]; exact hx))))
          · rw [hx] at e
            cases e
            exact .inr HON10.out.size
        · rcases HNEW.out x hx with e | e
          · exact .inl (hPO x (.inl e))
          · exact .inr e
      obtain ⟨w0, h00, hk0, hb0⟩ := HLA.out.keys
      refine ⟨by rw [HA.out]; rfl, logO b (.slice a5 n5 c5) (.slice a4 n2 c4), ⟨b, kv, _, _, rfl, rfl, ?_⟩, ?_⟩
      · rw [HAL.out]
        refine ⟨hc12, ⟨by rw [List.map_append]; exact ho12, fun x hx => ?_⟩, hid12, ⟨w0, h00, hk0, Only.toBelow hb0 hon12 (fun x hx => Nat.le_trans h00 (hON x (hPO x hx))) hb0.size⟩, fun x hx => ?_, by rw [List.length_append, HN.out, HM.out, HP2.out]; exact HSP.out, HLA.out.node⟩
        · rcases List.mem_append.1 hx with hx | hx
          · exact HEOK.out x hx
          · exact (HMM.out x hx).1.ok
        · rcases hown x hx with e | e
          · exact hON x e
          · exact Nat.le_trans hN9 e
      · refine ⟨Only.trans (Only.of (O := O) HB9.out) (O' := O) ⟨hon12.os, hon12.tape, hon12.output, hon12.size, fun k hk hn => hon12.block k hk (fun e => hn (hPO k e))⟩ (fun _ h => .inl h), fun x hx => ?_⟩
        rcases hown x hx with e | e
        · exact .inl e
        · exact .inr (Nat.le_trans HB9.out.size e)
end Go.Proofs.YtpfhlhcnmeodbaaDoor
namespace Go.Proofs.YtpfhlhcnmeodbaaDoor
open Go.RowKit Go.BigFrame
theorem EntN.In.len16 {e : EntN} (h : e.In) : e.Len := ⟨h.ok, h.d.key, h.d.val, h.pay, h.sig⟩
theorem built_out16 : Tryd.prog.built 35 [(0, .int .i64 3), (5, .int .i64 1)] = some (entV (outE 1 [])) := by
  rw [ent_fill, fill_kind, fill_mask (ha := ⟨zeroI_ok, zeroI_ok⟩), fill_end]
  rfl
theorem wpList_build_wide_want {P : Program} {w : World} {ops : Array Oper} {rest : List Oper} {o : Oper} {a : Act} {Q : Exit → Act → World → Prop} (hw : Region.wanted o (yielded ops a.tmps) = true) (t e : TypeId) (x : Operand) (ho : o.op = .buildSlice t 1 #[(0, x)]) (us : List Value) (hx : a.eval x = .agg us.toArray)
    (hr : ∀ w, (Instr.buildSlice t 1 #[(0, .agg us.toArray)]).run P w = .ok (.slice (some ⟨w.heap.size, 0, none⟩) 1 1) (w.alloc (.cells us.toArray e)))
    (h : ∀ w', Hid (Cells w.heap.size e us.toArray w') → Hid (Below w.heap.size w w') → wpList P ops Q rest (a.put o.dst (.slice (some ⟨w.heap.size, 0, none⟩) 1 1)) w') : wpList P ops Q (o :: rest) a w :=
  BigFrame.wpList_want hw fun _ hK => (show OpWp P { o with guard := none } a w _ _ from op_build_wide (o := { o with guard := none }) t e x ho us hx hr (hK _ _ (h _ (Lib.hid (heap_alloc_new w _)) (Lib.hid ((Below.refl _ _).alloc (Nat.le_refl _) _))))).out
theorem alive16_app : appE 1 [] [outE 1 []] = 0 := by
  rw [appE, if_pos, if_pos (by decide)]
  intro x hx
  obtain rfl := List.mem_singleton.1 hx
  exact .inr (.inr ⟨rfl, ⟨by decide, by decide, by decide⟩, rfl, rfl, rfl, rfl, rfl⟩)
set_option maxHeartbeats 4000000 in
set_option maxRecDepth 100000 in
theorem alive16_any (w : World) (hk : KAt w) : Calls Tryd.prog 8 #[] w fun e w' => e = .returned (.bool true) ∧ Below w.heap.size w w' := by
  have HK := Lib.hid hk
  have HG := Lib.hid hk.lt
  clear hk
  have HZ := Lib.hid (show (Tryd.prog.info? 26).bind (·.zero) = some (.agg (autL noA).toArray) by kernel_rfl)
  have HS := Lib.hid (sizeAV (a := noA) zeroI_ok)
  go_enter Tryd.func8, Tryd.ntmps8
  go_wp2_with fail
  refine (dev_new [115, 101, 101, 100] 1 w (by decide) (by decide) (by decide) HK.out).mono ?_
  rintro e w1 ⟨⟨kv, rfl, hv⟩, hb1⟩
  obtain ⟨ka, rfl⟩ := hv.ptr
  have HV := Lib.hid hv
  have HB1 := Lib.hid hb1
  have HK1 := Lib.hid (HK.out.below hb1)
  clear hv hb1
  go_wp2_with fail
  refine (dev_newLog 0 _ [115, 101, 101, 100] 1 w1 HV.out (by decide) (by decide)).mono ?_
  rintro e w2 ⟨⟨v, O, rfl, hl, hO⟩, hb2⟩
  obtain ⟨a, rfl⟩ := hl.ptr
  have HL2 := Lib.hid hl
  have HB2 := Lib.hid (HB1.out.trans (hb2.mono HB1.out.size))
  have HW1 := Lib.hid HB1.out.size
  clear hl hO hb2 HV HB1
  go_wp2_with fail
  refine (dev_authNone 1 w2 HL2.out (.inr (by decide))).mono ?_
  rintro e w3 ⟨rfl, hb3⟩
  have HL3 := Lib.hid (HL2.out.below hb3)
  have HB3 := Lib.hid (HB2.out.trans (hb3.mono HB2.out.size))
  clear hb3 HL2 HB2
  go_wp2_with (first
    | (refine wpList_alloc_of rfl 26 rfl (autL noA) HZ.out ?_)
    | (refine wpList_store_cells rfl 26 _ _ rfl rfl w3.heap.size (autV noA) (autV noA) 26 rfl rfl (heap_alloc_new w3 _) HS.out rfl (autV_all noA) ?_))
  intro w4 hc4 hb4
  have hb44 : Below w3.heap.size w3 w4 := But.toBelow ((Below.refl _ w3).alloc (Nat.le_refl _) _) hb4.out (Nat.le_refl _) (by rw [World.size_alloc]; exact Nat.le_succ _)
  have HL4 := Lib.hid (HL3.out.below hb44)
  have HB4 := Lib.hid (HB3.out.trans (hb44.mono HB3.out.size))
  clear hc4 hb4 hb44 HL3 HB3
  go_wp2_with fail
  refine (dev_left w4 HL4.out (by decide)).mono ?_
  rintro e w5 ⟨rfl, hb5⟩
  rw [show (((2 ^ 1 - ([] : List EntN).length : Nat)) : Int) = 2 from rfl]
  have HL5 := Lib.hid (HL4.out.below hb5)
  have HB5 := Lib.hid (HB4.out.trans (hb5.mono HB4.out.size))
  clear hb5 HL4 HB4
  have HBE := Lib.hid (fun w' => built_ent1 (outE 1 []) (outE_ok 1 []) w')
  go_wp2_with (first
    | (refine wpList_build_want (by rfl) 35 _ rfl [(0, .int .i64 3), (5, .int .i64 1)] _ (by rw [List.map_toArray]; rfl) built_out16 ?_)
    | (refine wpList_build_wide_want (by rfl) 23 35 _ rfl (entL (outE 1 [])) rfl HBE.out ?_))
  intro w6 hc6 hb6
  have HL6 := Lib.hid (HL5.out.below hb6.out)
  have HB6 := Lib.hid (HB5.out.trans (hb6.out.mono HB5.out.size))
  have HC6 := Lib.hid hc6.out
  have HK6 := Lib.hid (HK.out.below HB6.out)
  have HAP := Lib.hid (dev_append (some ⟨w5.heap.size, 0, none⟩) [outE 1 []] 1 w6 HL6.out (by decide) (fun x hx => by cases hx) (fun x hx => by
    obtain rfl := List.mem_singleton.1 hx
    exact ⟨⟨outE_ok 1 [], by decide, by decide, by decide, by decide⟩, by decide⟩) (by decide) (.inr ⟨w5.heap.size, 0, rfl, HC6.out.lt, fun i c hc => by
      have hi : i = 0 := by
        have := (List.getElem?_eq_some_iff.1 hc).1
        simpa using this
      subst hi
      obtain rfl : entL (outE 1 []) = c := by simpa using hc
      simpa using cells_range HC6.out⟩) (fun h => by cases h) (fun _ a ha => by
        cases ha
        intro hO
        exact Nat.lt_irrefl _ (HL5.out.lt _ hO)) HK6.out (Nat.lt_of_lt_of_le HG.out HW1.out))
  rw [show appL 1 [] [outE 1 []] = [outE 1 []] by rw [appL, if_pos alive16_app]; rfl, alive16_app] at HAP
  have HLATE := Lib.hid (fun x hx => Nat.le_trans HW1.out (HL6.out.late x hx))
  clear hc6 hb6 HL5 HB5 HBE
  go_wp2_with fail
  refine HAP.out.mono ?_
  rintro e w7 ⟨rfl, O', hl7, ht7⟩
  have HL7 := Lib.hid hl7
  have HB7 := Lib.hid (Only.toBelow HB6.out ht7.only HLATE.out HB6.out.size)
  clear hl7 ht7 HAP HL6 HB6 HLATE
  go_wp2_with fail
  refine (dev_len w7 HL7.out).mono ?_
  rintro e w8 ⟨rfl, hb8⟩
  rw [show (([outE 1 []] : List EntN).length : Int) = 1 from rfl]
  have HB8 := Lib.hid (HB7.out.trans (hb8.mono HB7.out.size))
  clear hb8 HL7 HB7
  go_wp2_with fail
  go_ret
  exact ⟨rfl, HB8.out⟩
def SmallE (L : List EntN) : Prop := L.length ≤ 12 ∧ ∀ e ∈ L, e.pay.length + e.sig.length + (e.d.key.length + e.d.val.length) ≤ 4096
set_option maxHeartbeats 4000000 in
set_option maxRecDepth 100000 in
theorem great16_any (ao : Option Addr) (L : List EntN) (c : Nat) (w : World) (hL : ∀ x ∈ L, x.Len) (hn : L.length ≤ 140737488351232) (hat : EntsAt ao L w) :
    Calls Tryd.prog 9 #[.slice ao L.length c] w fun e w' => (∃ z, e = .returned (.bool z) ∧ (z = false → SmallE L)) ∧ Below w.heap.size w w' := by
  have HP := Lib.hid hat
  have HLL := Lib.hid hL
  obtain ⟨n, hnn⟩ : ∃ n, L.length = n := ⟨_, rfl⟩
  have HN := Shut.mk hnn
  rw [hnn] at hn ⊢
  have HZE := Lib.hid (show (Tryd.prog.info? 35).bind (·.zero) = some (.agg (entL noE).toArray) by kernel_rfl)
  clear hat hL hnn
  go_enter Tryd.func9, Tryd.ntmps9
  go_wp2_with fail
  go_loopw [3, 8] (fun s j wr => ∃ k m : Nat, k ≤ n ∧ j = .int .i64 k ∧ s = .int .i64 m ∧ m ≤ 4096 ∧ (∀ e ∈ L.take k, e.pay.length + e.sig.length + (e.d.key.length + e.d.val.length) ≤ 4096) ∧ Below w.heap.size w wr) (fun _ j _ => n - (intOf j).toNat)
  case atStart => exact ⟨0, 0, Nat.zero_le _, rfl, rfl, by decide, by simp, Below.refl _ _⟩
  case round =>
    obtain ⟨k, m, hk, rfl, rfl, hm, hall, hb⟩ := hrel
    have HA := Lib.hid hall
    have HBW := Lib.hid hb
    have HPW := Lib.hid (HP.out.below hb)
    clear hb hall
    by_cases hkn : k < n
    · obtain ⟨y, hy⟩ : ∃ y, L[k]? = some y := ⟨_, List.getElem?_eq_getElem (by rw [HN.out]; exact hkn)⟩
      have HTK := Shut.mk (show L.take (k + 1) = L.take k ++ [y] by
        have h1 : L[k]'(by rw [HN.out]; exact hkn) = y := by
          rw [List.getElem?_eq_getElem (by rw [HN.out]; exact hkn)] at hy
          exact Option.some.inj hy
        rw [List.take_succ_eq_append_getElem (by rw [HN.out]; exact hkn), h1])
      have HY := Lib.hid (HLL.out y (List.mem_of_getElem? hy))
      obtain ⟨b, ob, rfl, hbl, hr⟩ := HPW.out.getM hy
      have HR := Lib.hid hr
      have HSL := Lib.hid (sizeEL HY.out.ok)
      have HSV := Lib.hid (sizeEV HY.out.ok)
      clear hy hbl hr
      go_wp2_with (first
        | (refine wpList_load_mid rfl 35 _ rfl b (ob + k * 73) rfl _ _ HR.out Tryd.underlying35 rfl HSL.out ?_)
        | (refine wpList_alloc_of rfl 35 rfl (entL noE) HZE.out ?_)
        | (refine wpList_store_cells rfl 35 _ _ rfl rfl wr.heap.size (entV noE) (entV y) 35 rfl rfl (heap_alloc_new wr _) HSV.out (by rw [entV_size HY.out.ok]; rfl) (entV_all y) ?_))
      intro w4 hc hb
      have hb4 : Below wr.heap.size wr w4 := But.toBelow ((Below.refl _ wr).alloc (Nat.le_refl _) _) hb.out (Nat.le_refl _) (by rw [World.size_alloc]; exact Nat.le_succ _)
      have HB4 := Lib.hid (HBW.out.trans (hb4.mono HBW.out.size))
      obtain ⟨_, cd, _, _, _, _, c71, c72⟩ := ent_cells HY.out.ok hc.out
      obtain ⟨_, c2, c3, _⟩ := draft_mid cd
      have h1 := HY.out.pay
      have h2 := HY.out.sig
      have h3 := HY.out.key
      have h4 := HY.out.val
      obtain ⟨g5, hg5⟩ : ∃ g, wr.heap.size = g := ⟨_, rfl⟩
      rw [hg5] at c71 c72 c2 c3 ⊢
      obtain ⟨yl, hyl⟩ : ∃ n, y.pay.length = n := ⟨_, rfl⟩
      obtain ⟨sl, hsl⟩ : ∃ n, y.sig.length = n := ⟨_, rfl⟩
      obtain ⟨kl, hkl⟩ : ∃ n, y.d.key.length = n := ⟨_, rfl⟩
      obtain ⟨vl, hvl⟩ : ∃ n, y.d.val.length = n := ⟨_, rfl⟩
      have HYS := Shut.mk (show y.pay.length + y.sig.length + (y.d.key.length + y.d.val.length) = yl + sl + (kl + vl) by rw [hyl, hsl, hkl, hvl])
      rw [hyl] at h1
      rw [hsl] at h2
      rw [hkl] at h3
      rw [hvl] at h4
      clear hc hb hb4 hg5 HBW HPW HR HSL cd
      by_cases hbig : 4096 < m + (yl + sl + kl + vl)
      · have hbi : decide ((4096 : Int) < (m : Int) + ((yl : Int) + sl + kl + vl)) = true := decide_eq_true (by omega)
        go_wp2_with fail
        go_ret
        exact ⟨⟨true, rfl, fun h => by cases h⟩, HB4.out⟩
      · have hbi : decide ((4096 : Int) < (m : Int) + ((yl : Int) + sl + kl + vl)) = false := decide_eq_false (by omega)
        go_wp2_with fail
        refine ⟨⟨k + 1, m + (yl + sl + kl + vl), by omega, by go_num, by go_num, by omega, ?_, HB4.out⟩, by simp [intOf]; omega⟩
        rw [HTK.out]
        intro e he
        rcases List.mem_append.1 he with he | he
        · exact HA.out e he
        · obtain rfl := List.mem_singleton.1 he
          rw [HYS.out]
          omega
    · obtain rfl : k = n := by omega
      have HT := Lib.hid (show ∀ e ∈ L, e.pay.length + e.sig.length + (e.d.key.length + e.d.val.length) ≤ 4096 from fun e he => HA.out e (by rw [List.take_of_length_le (by rw [HN.out]; exact Nat.le_refl _)]; exact he))
      by_cases h12 : 12 < k
      · have h12i : decide ((12 : Int) < (k : Int)) = true := decide_eq_true (by omega)
        go_wp2_with fail
        go_ret
        exact ⟨⟨true, rfl, fun h => by cases h⟩, HBW.out⟩
      · have h12i : decide ((12 : Int) < (k : Int)) = false := decide_eq_false (by omega)
        go_wp2_with fail
        go_ret
        exact ⟨⟨false, rfl, fun _ => ⟨by rw [HN.out]; omega, HT.out⟩⟩, HBW.out⟩
end Go.Proofs.YtpfhlhcnmeodbaaDoor
namespace Go.Proofs.YtpfhlhcnmeodbaaDoor
open Go.RowKit Go.BigFrame
theorem quiet_indexAt {P : Program} {o : Oper} {a : Act} {C : World → Prop} {K : Act → Prop} (ty : TypeId) (x y : Operand) (ho : o.op = .indexAddr ty x y) (vx vy : Value) (q : Addr) (hx : a.eval x = vx) (hy : a.eval y = vy) (hr : ∀ w, (Instr.indexAt ty vx vy).run P w = .ok (.pointer (some q)) w) (hk : K (a.put o.dst (.pointer (some q)))) : o.quiet P a C K := by
  refine ⟨_, fun w _ => ?_, hk⟩
  unfold Oper.quietAt execOp
  simp only [ho, hx, hy, Sem.run_bind, hr w, Result.andThen_ok, Sem.run_pure]
  exact ⟨rfl, rfl⟩
end Go.Proofs.YtpfhlhcnmeodbaaDoor
namespace Go.Proofs.YtpfhlhcnmeodbaaDoor.chainParts
open Go.RowKit Go.BigFrame Go.Proofs.YtpfhlhcnmeodbaaDoor
theorem of_in {A : List EntN} (h : ∀ x ∈ A, x.In) : ∀ x ∈ A, x.Len ∧ x.seq < 9223372036854775808 := fun x hx => ⟨(h x hx).len16, (h x hx).fit.seq⟩
theorem slice_ents_hi (ap : Option Addr) (n c j : Nat) (hj : j ≤ n) (hc : n ≤ c) (w : World) : (Instr.sliceAt 23 (.slice ap n c) none (some (.int .i64 (j : Int))) none).run Tryd.prog w = .ok (.slice ap j c) w := by
  go_simp
  intro h
  omega
theorem slice_ents_from (ap : Option Addr) (n c j : Nat) (hj : j ≤ n) (_hc : n ≤ c) (w : World) : (Instr.sliceAt 23 (.slice ap n c) (some (.int .i64 (j : Int))) none none).run Tryd.prog w = .ok (.slice (if c = j then ap else ap.map (·.add (j * 73))) (n - j) (c - j)) w := by
  go_simp
theorem index_id (b o n c j : Nat) (hj : j < n) (w : World) : (Instr.indexAt 29 (.slice (some ⟨b, o, none⟩) n c) (.int .i64 (j : Int))).run Tryd.prog w = .ok (.pointer (some ⟨b, o + j * 32, none⟩)) w := by
  have h1 : (j : Int) < (n : Int) := by omega
  go_simp
theorem guard_neq (x y : Operand) (u v : Array Value) (w : World) : (eqGuard .neq 24 x y (.agg u) (.agg v)).run Tryd.prog w = .ok () w := run_eqGuard_agg w .neq 24 x y u v (by kernel_rfl)
theorem neq_same (a : List Nat) (ha : IdOk a) (w : World) : (binOp .neq 24 (.agg (nums .u8 a).toArray) (.agg (nums .u8 a).toArray)).run Tryd.prog w = .ok (.bool false) w := by
  rw [run_neq_struct, equal_idI a a ha.1 ha.1 ha.2 ha.2]
  simp
theorem add_at (i : Int) (k : Nat) (h0 : 0 ≤ i) (h1 : i ≤ 1152921504606846976) (h2 : k ≤ 12) (w : World) : (binOp .add 3 (.int .i64 i) (.int .i64 (k : Int))).run Tryd.prog w = .ok (.int .i64 (i + k)) w := by
  have h4 : IntKind.i64.wrap (i + k) = i + k := by
    simp [IntKind.wrap, IntKind.bits, IntKind.signed]
    omega
  go_simp
theorem sub_at (j k : Nat) (h0 : k ≤ j) (h2 : j ≤ 12) (w : World) : (binOp .sub 3 (.int .i64 (j : Int)) (.int .i64 (k : Int))).run Tryd.prog w = .ok (.int .i64 ((j - k : Nat) : Int)) w := by
  obtain ⟨m, rfl⟩ : ∃ m, j = m + k := ⟨j - k, by omega⟩
  rw [Nat.add_sub_cancel]
  have h5 : ((m + k : Nat) : Int) - (k : Int) = (m : Int) := by omega
  have h4 : IntKind.i64.wrap (m : Int) = (m : Int) := by
    simp [IntKind.wrap, IntKind.bits, IntKind.signed]
    omega
  go_simp
theorem row_at {ao : Option Addr} {n j : Nat} {L : List (List Nat)} {w : World} {x : List Nat} (h : IAt ao L w) (hn : L.length = n) (hj : j < n) (hx : L[j]? = some x) : ∃ b o, ao = some ⟨b, o, none⟩ ∧ b < w.heap.size ∧ w.rangeAt b (o + j * 32) (nums .u8 x) := by
  obtain ⟨b, o, rfl, hb⟩ := h.some (by omega)
  refine ⟨b, o, rfl, hb, ?_⟩
  have h1 := h.get (i := j) (by omega)
  rw [List.getD_eq_getElem?_getD, hx] at h1
  exact h1
set_option maxHeartbeats 8000000 in
set_option maxRecDepth 100000 in
theorem walk (w : World) (hk : KAt w) (p : List Nat) (hp : IdOk p) (i : Int) (wi : (Lit.int .i64 i).wf = true) (ao : Option Addr) (A : List EntN) (ca : Nat) (hat : EntsAt ao A w) (hA : ∀ x ∈ A, x.In) (hn : A.length ≤ 140737488351232) (hca : A.length ≤ ca) (cut : Int) (wc : (Lit.int .i64 cut).wf = true) :
    Calls Tryd.prog 6 #[.agg (nums .u8 p).toArray, .int .i64 i, .slice ao A.length ca, .int .i64 cut] w fun e w' => e = .returned (.bool true) ∧ Below w.heap.size w w' := by
  have HK := Lib.hid hk
  have HAT := Lib.hid hat
  have HAI := Lib.hid hA
  have HP := Lib.hid hp
  have HGA := Lib.hid (fun w' (b : Below w.heap.size w w') => great16_any ao A ca w' (fun x hx => (hA x hx).len16) hn (RAt.below hat b))
  have BI := bounds_i64 wi
  have BC := bounds_i64 wc
  obtain ⟨n, hnn⟩ : ∃ n, A.length = n := ⟨_, rfl⟩
  have HN := Shut.mk hnn
  rw [hnn] at hn hca HGA ⊢
  have HCA := Lib.hid hca
  have HSP := Lib.hid (show (Tryd.prog.info? 22).map (·.size) = some p.length by rw [HP.out.1]; kernel_rfl)
  have HSI := Lib.hid (show (Tryd.prog.info? 24).map (·.size) = some p.length by rw [HP.out.1]; exact Tryd.sizeI)
  clear hk hat hA hp hnn wi wc hca
  go_enter Tryd.func6, Tryd.ntmps6
  go_upto_region 1 with (fail)
  obtain ⟨w1, hw1⟩ : ∃ x', x' = w.alloc (.cells (nums .u8 p).toArray 22) := ⟨_, rfl⟩
  rw [← hw1]
  have hb1 : Below w.heap.size w w1 := by rw [hw1]; exact (Below.refl _ _).alloc (Nat.le_refl _) _
  have HP1 := Lib.hid (show Blk w.heap.size 22 .u8 p w1 by rw [hw1]; exact heap_alloc_new w _)
  have HB1 := Lib.hid hb1
  have HK1 := Lib.hid (HK.out.below hb1)
  obtain ⟨gp, hgp⟩ : ∃ g, g = w.heap.size := ⟨_, rfl⟩
  rw [← hgp] at HP1 ⊢
  clear hb1 hw1 hgp
  go_wp2_with fail
  refine (alive16_any w1 HK1.out).mono ?_
  rintro e w2 ⟨rfl, hb2⟩
  have HP2 := Lib.hid (HP1.out.below hb2)
  have HB2 := Lib.hid (HB1.out.trans (hb2.mono HB1.out.size))
  clear hb2 HP1 HB1 HK1
  go_wp2_with fail
  refine (HGA.out w2 HB2.out).mono ?_
  rintro e w4 ⟨⟨z1, rfl, hz1⟩, hb3⟩
  have HP4 := Lib.hid (HP2.out.below hb3)
  have HB4 := Lib.hid (HB2.out.trans (hb3.mono HB2.out.size))
  clear hb3 HP2 HB2 HGA
  cases z1 with
  | true =>
    go_wp2_with fail
    go_ret
    exact ⟨rfl, HB4.out⟩
  | false =>
  have HSA := Lib.hid (hz1 rfl)
  clear hz1
  have n12 : n ≤ 12 := by have := HSA.out.1; rw [HN.out] at this; exact this
  by_cases i1 : i < 0
  · go_wp2_with fail
    go_ret
    exact ⟨rfl, HB4.out⟩
  by_cases i2 : 1152921504606846976 < i
  · go_wp2_with fail
    go_ret
    exact ⟨rfl, HB4.out⟩
  by_cases c1 : cut < 0
  · go_wp2_with fail
    go_ret
    exact ⟨rfl, HB4.out⟩
  by_cases c2 : (n : Int) < cut
  · go_wp2_with fail
    go_ret
    exact ⟨rfl, HB4.out⟩
  obtain ⟨k, rfl⟩ := Int.eq_ofNat_of_zero_le (show 0 ≤ cut by omega)
  have hkn : k ≤ n := by omega
  have H3 := Lib.hid (show n ≤ 12 ∧ 0 ≤ i ∧ i ≤ 1152921504606846976 by omega)
  have HKK := Lib.hid (HK.out.below HB4.out)
  have HAT4 := Lib.hid (HAT.out.below HB4.out)
  have HTK := Shut.mk (show (A.take k).length = k by rw [List.length_take, HN.out]; omega)
  have HDK := Shut.mk (show (A.drop k).length = n - k by rw [List.length_drop, HN.out])
  have HAK := Lib.hid (show EntsAt ao (A.take k) w4 from by
    have h := RAt.take HAT4.out k
    rw [← List.map_take] at h
    exact h)
  obtain ⟨ro, hro⟩ : ∃ r, (if ca = k then ao else ao.map (·.add (k * 73))) = r := ⟨_, rfl⟩
  have HAD := Lib.hid (show EntsAt ro (A.drop k) w4 from by
    have h := RAt.drop (c := ca) (j := k) HAT4.out (by rw [List.length_map, HN.out]; exact HCA.out)
    rw [← List.map_drop, hro] at h
    exact h)
  have HSLH := Lib.hid (slice_ents_hi ao n ca k hkn HCA.out)
  have HSLL := Lib.hid (slice_ents_from ao n ca k hkn HCA.out)
  rw [hro] at HSLL
  have HDA := Lib.hid (fun w' (b : Below w4.heap.size w4 w') => dev_walk16 p i ao A ca w' HP.out (by omega) (by rw [HN.out]; omega) (of_in HAI.out) (by rw [HN.out]; omega) (HAT4.out.below b) (HKK.out.below b))
  have HDF := Lib.hid (fun w' (b : Below w4.heap.size w4 w') => dev_walk16 p i ao (A.take k) ca w' HP.out (by omega) (by rw [HTK.out]; omega) (of_in fun x hx => HAI.out x (List.mem_of_mem_take hx)) (by rw [HTK.out]; omega) (HAK.out.below b) (HKK.out.below b))
  have HDR := Lib.hid (fun w' (b : Below w4.heap.size w4 w') => dev_walk16 (endN p i (A.take k)) (i + k) ro (A.drop k) (ca - k) w' (endN_ok HP.out _ _) (by omega) (by rw [HDK.out]; omega) (of_in fun x hx => HAI.out x (List.mem_of_mem_drop hx)) (by rw [HDK.out]; omega) (HAD.out.below b) (HKK.out.below b))
  rw [HN.out] at HDA
  rw [HTK.out] at HDF
  rw [HDK.out] at HDR
  have HAPP := Shut.mk (show leadN p i A = leadN p i (A.take k) ++ leadN (endN p i (A.take k)) (i + k) (A.drop k) by
    conv => lhs; rw [← List.take_append_drop k A]
    rw [leadN_app, HTK.out])
  have HLAST := Lib.hid (show 0 < k → (leadN p i (A.take k))[k - 1]? = some (endN p i (A.take k)) from fun h => by
    have := leadN_last (L := A.take k) p i (fun e => by rw [e] at HTK; have := HTK.out; simp at this; omega)
    rw [HTK.out] at this
    exact this)
  have HEND0 := Shut.mk (show k = 0 → endN p i (A.take k) = p from fun h => by rw [h]; simp [endN])
  obtain ⟨XL, hXL⟩ : ∃ x, leadN p i A = x := ⟨_, rfl⟩
  obtain ⟨FL, hFL⟩ : ∃ x, leadN p i (A.take k) = x := ⟨_, rfl⟩
  obtain ⟨E, hE⟩ : ∃ x, endN p i (A.take k) = x := ⟨_, rfl⟩
  obtain ⟨RL, hRL⟩ : ∃ x, leadN (endN p i (A.take k)) (i + k) (A.drop k) = x := ⟨_, rfl⟩
  have HXN := Shut.mk (show XL.length = n by rw [← hXL, leadN_len, HN.out])
  have HFN := Shut.mk (show FL.length = k by rw [← hFL, leadN_len, HTK.out])
  have HRN := Shut.mk (show RL.length = n - k by rw [← hRL, leadN_len, HDK.out])
  have HXI := Lib.hid (show Ids XL by rw [← hXL]; exact fun x hx => leadN_ok A p i x hx)
  have HFI := Lib.hid (show Ids FL by rw [← hFL]; exact fun x hx => leadN_ok _ p i x hx)
  have HRI := Lib.hid (show Ids RL by rw [← hRL]; exact fun x hx => leadN_ok _ _ _ x hx)
  have HEO := Lib.hid (show IdOk E by rw [← hE]; exact endN_ok HP.out _ _)
  rw [hXL, hFL, hRL] at HAPP
  rw [hFL, hE] at HLAST
  rw [hE] at HEND0
  rw [hXL] at HDA
  rw [hFL] at HDF
  rw [hRL, hE] at HDR
  clear hXL hFL hRL hE hro HTK HDK HAK HAD HAT4
  go_upto_region 5 with (fail)
  refine wp_region_free 11 (fun q V w' => Vals q V [(0, .agg (nums .u8 p).toArray), (1, .int .i64 i), (2, .slice ao n ca), (4, .agg (nums .u8 p).toArray), (5, .int .i64 i), (6, .slice ao n ca), (7, .int .i64 (k : Int)), (8, .slice ao k ca)] ∧ Res q V 3 (fun (v : Value) (w' : World) => ∃ (ao : Option Addr) (c : Nat), v = Value.slice ao n c ∧ IAt ao XL w') w' ∧ Res q V 9 (fun (v : Value) (w' : World) => ∃ (ao : Option Addr) (c : Nat), v = Value.slice ao k c ∧ IAt ao FL w') w' ∧ Res q V 10 (fun (v : Value) (w' : World) => ∃ (ao : Option Addr) (c : Nat), v = Value.slice ao n c ∧ IAt ao XL w') w' ∧ Below w4.heap.size w4 w') (fun _ => undef) (by kernel_rfl) (by kernel_rfl) (by kernel_rfl) (by simp only [List.take_succ_cons, List.take_zero, putAll, Act.put, List.setIfInBounds_toArray, List.set_cons_zero, List.set_cons_succ]) ⟨Vals.none, Res.none, Res.none, Res.none, (Below.refl _ _).drew⟩ ?_ ?_
  · simp only [List.take_succ_cons, List.take_zero, putAll, Nat.zero_add, Nat.reduceAdd, Act.put, List.setIfInBounds_toArray, List.set_cons_zero, List.set_cons_succ]
    refine FreeSteps.cons ?_ (FreeSteps.cons ?_ (FreeSteps.cons ?_ (FreeSteps.cons ?_ (FreeSteps.cons ?_ (FreeSteps.cons ?_ (FreeSteps.cons ?_ (FreeSteps.cons ?_ (FreeSteps.cons ?_ (FreeSteps.cons ?_ (FreeSteps.cons ?_ (FreeSteps.nil)))))))))))
    all_goals (refine FreeStep.fresh rfl ?_; rintro q V wq hr hu ⟨hVs, h3, h9, h10, hb⟩ K hK)
    · exact op_load_nums 22 (.tmp 4) rfl gp .u8 p 22 _ rfl (HP4.out.below hb) Tryd.underlying22 rfl HSP.out (hK _ _ ⟨hVs.set rfl, h3.ne (by decide) (fun _ _ _ ⟨ao, c, e, h⟩ k => ⟨ao, c, e, h.below k⟩) (Below.refl _ _), h9.ne (by decide) (fun _ _ _ ⟨ao, c, e, h⟩ k => ⟨ao, c, e, h.below k⟩) (Below.refl _ _), h10.ne (by decide) (fun _ _ _ ⟨ao, c, e, h⟩ k => ⟨ao, c, e, h.below k⟩) (Below.refl _ _), hb⟩)
    · exact op_move (.tmp 1) rfl _ rfl (hK _ _ ⟨hVs.set rfl, h3.ne (by decide) (fun _ _ _ ⟨ao, c, e, h⟩ k => ⟨ao, c, e, h.below k⟩) (Below.refl _ _), h9.ne (by decide) (fun _ _ _ ⟨ao, c, e, h⟩ k => ⟨ao, c, e, h.below k⟩) (Below.refl _ _), h10.ne (by decide) (fun _ _ _ ⟨ao, c, e, h⟩ k => ⟨ao, c, e, h.below k⟩) (Below.refl _ _), hb⟩)
    · exact op_move (.tmp 2) rfl _ rfl (hK _ _ ⟨hVs.set rfl, h3.ne (by decide) (fun _ _ _ ⟨ao, c, e, h⟩ k => ⟨ao, c, e, h.below k⟩) (Below.refl _ _), h9.ne (by decide) (fun _ _ _ ⟨ao, c, e, h⟩ k => ⟨ao, c, e, h.below k⟩) (Below.refl _ _), h10.ne (by decide) (fun _ _ _ ⟨ao, c, e, h⟩ k => ⟨ao, c, e, h.below k⟩) (Below.refl _ _), hb⟩)
    · refine op_call Tryd.func10 rfl rfl rfl [.agg (nums .u8 p).toArray, .int .i64 i, .slice ao n ca] (cons_eq (hVs.get 0 (hr { on := 0, ground := .data } (by simp) rfl) rfl) (cons_eq (hVs.get 1 (hr { on := 1, ground := .data } (by simp) rfl) rfl) (cons_eq (hVs.get 2 (hr { on := 2, ground := .data } (by simp) rfl) rfl) rfl))) (HDA.out wq hb) ?_
      rintro e w' ⟨⟨vr, rfl, ho⟩, hb'⟩
      obtain ⟨ar, cr, rfl⟩ := ho.form
      have hat := ho.at HXI.out
      have hres : (fun (v : Value) (w' : World) => ∃ (ao : Option Addr) (c : Nat), v = Value.slice ao n c ∧ IAt ao XL w') (.slice ar (XL).length cr) w' := ⟨ar, cr, by rw [HXN.out], hat⟩
      exact ⟨_, rfl, (hK _ _ ⟨hVs.off rfl, .same hres, h9.ne (by decide) (fun _ _ _ ⟨ao, c, e, h⟩ k => ⟨ao, c, e, h.below k⟩) hb', h10.ne (by decide) (fun _ _ _ ⟨ao, c, e, h⟩ k => ⟨ao, c, e, h.below k⟩) hb', hb.trans (hb'.mono hb.size)⟩)⟩
    · exact op_load_nums 22 (.tmp 4) rfl gp .u8 p 22 _ rfl (HP4.out.below hb) Tryd.underlying22 rfl HSP.out (hK _ _ ⟨hVs.set rfl, h3.ne (by decide) (fun _ _ _ ⟨ao, c, e, h⟩ k => ⟨ao, c, e, h.below k⟩) (Below.refl _ _), h9.ne (by decide) (fun _ _ _ ⟨ao, c, e, h⟩ k => ⟨ao, c, e, h.below k⟩) (Below.refl _ _), h10.ne (by decide) (fun _ _ _ ⟨ao, c, e, h⟩ k => ⟨ao, c, e, h.below k⟩) (Below.refl _ _), hb⟩)
    · exact op_move (.tmp 1) rfl _ rfl (hK _ _ ⟨hVs.set rfl, h3.ne (by decide) (fun _ _ _ ⟨ao, c, e, h⟩ k => ⟨ao, c, e, h.below k⟩) (Below.refl _ _), h9.ne (by decide) (fun _ _ _ ⟨ao, c, e, h⟩ k => ⟨ao, c, e, h.below k⟩) (Below.refl _ _), h10.ne (by decide) (fun _ _ _ ⟨ao, c, e, h⟩ k => ⟨ao, c, e, h.below k⟩) (Below.refl _ _), hb⟩)
    · exact op_move (.tmp 2) rfl _ rfl (hK _ _ ⟨hVs.set rfl, h3.ne (by decide) (fun _ _ _ ⟨ao, c, e, h⟩ k => ⟨ao, c, e, h.below k⟩) (Below.refl _ _), h9.ne (by decide) (fun _ _ _ ⟨ao, c, e, h⟩ k => ⟨ao, c, e, h.below k⟩) (Below.refl _ _), h10.ne (by decide) (fun _ _ _ ⟨ao, c, e, h⟩ k => ⟨ao, c, e, h.below k⟩) (Below.refl _ _), hb⟩)
    · exact op_move (.tmp 3) rfl _ rfl (hK _ _ ⟨hVs.set rfl, h3.ne (by decide) (fun _ _ _ ⟨ao, c, e, h⟩ k => ⟨ao, c, e, h.below k⟩) (Below.refl _ _), h9.ne (by decide) (fun _ _ _ ⟨ao, c, e, h⟩ k => ⟨ao, c, e, h.below k⟩) (Below.refl _ _), h10.ne (by decide) (fun _ _ _ ⟨ao, c, e, h⟩ k => ⟨ao, c, e, h.below k⟩) (Below.refl _ _), hb⟩)
    · exact op_slice_hi 23 (.tmp 43) (.tmp 44) rfl _ _ _ (hVs.get 6 (hr { on := 6, ground := .data } (by simp) rfl) rfl) (hVs.get 7 (hr { on := 7, ground := .data } (by simp) rfl) rfl) HSLH.out (hK _ _ ⟨hVs.set rfl, h3.ne (by decide) (fun _ _ _ ⟨ao, c, e, h⟩ k => ⟨ao, c, e, h.below k⟩) (Below.refl _ _), h9.ne (by decide) (fun _ _ _ ⟨ao, c, e, h⟩ k => ⟨ao, c, e, h.below k⟩) (Below.refl _ _), h10.ne (by decide) (fun _ _ _ ⟨ao, c, e, h⟩ k => ⟨ao, c, e, h.below k⟩) (Below.refl _ _), hb⟩)
    · refine op_call Tryd.func10 rfl rfl rfl [.agg (nums .u8 p).toArray, .int .i64 i, .slice ao k ca] (cons_eq (hVs.get 4 (hr { on := 4, ground := .data } (by simp) rfl) rfl) (cons_eq (hVs.get 5 (hr { on := 5, ground := .data } (by simp) rfl) rfl) (cons_eq (hVs.get 8 (hr { on := 8, ground := .data } (by simp) rfl) rfl) rfl))) (HDF.out wq hb) ?_
      rintro e w' ⟨⟨vr, rfl, ho⟩, hb'⟩
      obtain ⟨ar, cr, rfl⟩ := ho.form
      have hat := ho.at HFI.out
      have hres : (fun (v : Value) (w' : World) => ∃ (ao : Option Addr) (c : Nat), v = Value.slice ao k c ∧ IAt ao FL w') (.slice ar (FL).length cr) w' := ⟨ar, cr, by rw [HFN.out], hat⟩
      exact ⟨_, rfl, (hK _ _ ⟨hVs.off rfl, h3.ne (by decide) (fun _ _ _ ⟨ao, c, e, h⟩ k => ⟨ao, c, e, h.below k⟩) hb', .same hres, h10.ne (by decide) (fun _ _ _ ⟨ao, c, e, h⟩ k => ⟨ao, c, e, h.below k⟩) hb', hb.trans (hb'.mono hb.size)⟩)⟩
    · have hres := h3 (hr { on := 3, ground := .data } (by simp) rfl)
      exact op_assign (.tmp 40) rfl _ rfl (hK _ _ ⟨hVs.off rfl, h3.ne (by decide) (fun _ _ _ ⟨ao, c, e, h⟩ k => ⟨ao, c, e, h.below k⟩) (Below.refl _ _), h9.ne (by decide) (fun _ _ _ ⟨ao, c, e, h⟩ k => ⟨ao, c, e, h.below k⟩) (Below.refl _ _), .same hres, hb⟩)
  rintro q V wq hall ⟨hVs, h3, h9, h10, hb⟩
  have v0 := hVs.get 0 (hall 0 (by decide)) rfl
  have v1 := hVs.get 1 (hall 1 (by decide)) rfl
  have v2 := hVs.get 2 (hall 2 (by decide)) rfl
  have hs3 := h3 (hall 3 (by decide))
  obtain ⟨u3, v3⟩ : ∃ v, V 3 = v := ⟨_, rfl⟩
  rw [v3] at hs3
  have v4 := hVs.get 4 (hall 4 (by decide)) rfl
  have v5 := hVs.get 5 (hall 5 (by decide)) rfl
  have v6 := hVs.get 6 (hall 6 (by decide)) rfl
  have v7 := hVs.get 7 (hall 7 (by decide)) rfl
  have v8 := hVs.get 8 (hall 8 (by decide)) rfl
  have hs9 := h9 (hall 9 (by decide))
  obtain ⟨u9, v9⟩ : ∃ v, V 9 = v := ⟨_, rfl⟩
  rw [v9] at hs9
  have hs10 := h10 (hall 10 (by decide))
  obtain ⟨u10, v10⟩ : ∃ v, V 10 = v := ⟨_, rfl⟩
  rw [v10] at hs10
  simp only [List.take_succ_cons, List.take_zero, List.drop_succ_cons, List.drop_zero, putAll, Nat.zero_add, Nat.reduceAdd, v0, v1, v2, v3, v4, v5, v6, v7, v8, v9, v10, Act.put, List.setIfInBounds_toArray, List.set_cons_zero, List.set_cons_succ]
  clear hVs v0 v1 v2 v3 v4 v5 v6 v7 v8 v9 v10 hall
  obtain ⟨w5, hw5⟩ : ∃ x, x = wq := ⟨_, rfl⟩
  rw [← hw5] at hb hs9 hs10 ⊢
  obtain ⟨a9, c9, rfl, hi9⟩ := hs9
  obtain ⟨a10, c10, rfl, hi10⟩ := hs10
  have HD5 := Lib.hid hb
  have HB5 := Lib.hid (HB4.out.trans (hb.mono HB4.out.size))
  have HP5 := Lib.hid (HP4.out.below hb)
  have HF5 := Lib.hid hi9
  have HX5 := Lib.hid hi10
  clear hw5 hb hi9 hi10 hs3 HDA HDF HP4
  have HZI := Lib.hid (show (Tryd.prog.info? 24).bind (·.zero) = some (.agg (nums .u8 (List.replicate 32 0)).toArray) by kernel_rfl)
  go_wp2_with (first
    | (refine wpList_load_nums rfl 22 _ rfl gp .u8 p 22 _ rfl HP5.out Tryd.underlying22 rfl HSP.out ?_)
    | (refine wpList_alloc_of rfl 24 rfl (nums .u8 (List.replicate 32 0)) HZI.out ?_)
    | (refine wpList_store_nums rfl 24 _ _ rfl rfl w5.heap.size .u8 (List.replicate 32 0) p 24 rfl rfl (heap_alloc_new w5 _) HSI.out (by rw [HP.out.1]; rfl) ?_))
  intro w6 hc6 hb6
  have hb66 : Below w5.heap.size w5 w6 := But.toBelow ((Below.refl _ w5).alloc (Nat.le_refl _) _) hb6.out (Nat.le_refl _) (by rw [World.size_alloc]; exact Nat.le_succ _)
  have HE6 := Lib.hid (show Blk w5.heap.size 24 .u8 p w6 from hc6.out)
  have HD6 := Lib.hid (HD5.out.trans (hb66.mono HD5.out.size))
  have HB6 := Lib.hid (HB5.out.trans (hb66.mono HB5.out.size))
  have HF6 := Lib.hid (HF5.out.below hb66)
  have HX6 := Lib.hid (HX5.out.below hb66)
  have HGE5 := Lib.hid HB5.out.size
  have HGD5 := Lib.hid HD5.out.size
  have HD56 := Lib.hid hb66
  obtain ⟨ge, hge⟩ : ∃ g, g = w5.heap.size := ⟨_, rfl⟩
  have HGEQ := Shut.mk hge
  rw [← hge] at HE6 HGE5 HGD5 ⊢
  clear hc6 hb6 hb66 hge HP5 HD5 HB5 HZI
  by_cases k0 : 0 < k
  case' pos =>
    have k0i : decide ((0 : Int) < (k : Int)) = true := decide_eq_true (by omega)
    obtain ⟨b9, o9, rfl, hl9, hr9⟩ := row_at HF6.out HFN.out (show k - 1 < k by omega) (HLAST.out k0)
    have HR9 := Lib.hid hr9
    have HSE := Lib.hid (show (Tryd.prog.info? 24).map (·.size) = some (nums .u8 E).length by rw [nums_len, HEO.out.1]; exact Tryd.sizeI)
    have HSE2 := Lib.hid (show (Tryd.prog.info? 24).map (·.size) = some E.length by rw [HEO.out.1]; exact Tryd.sizeI)
    have hmk : k - 1 < k := by omega
    obtain ⟨m, hm⟩ : ∃ m, k - 1 = m := ⟨_, rfl⟩
    rw [hm] at HR9 hmk
    have hmi : (k : Int) - 1 = (m : Int) := by omega
    clear hl9 hr9 hm
    go_wp2_with (first
      | (refine wpList_load_mid rfl 24 _ rfl b9 (o9 + m * 32) rfl _ _ HR9.out Tryd.underlying24 rfl HSE.out ?_)
      | (refine wpList_store_nums rfl 24 _ _ rfl rfl ge .u8 p E 24 rfl rfl HE6.out HSE2.out (by rw [HP.out.1, HEO.out.1]) ?_))
    intro w7 hc7 hb7
    have HE7 := Lib.hid (show Blk ge 24 .u8 E w7 from hc7.out)
    have HD7 := Lib.hid (show Below w4.heap.size w4 w7 from But.toBelow HD6.out hb7.out HGD5.out HD6.out.size)
    have HB7 := Lib.hid (show Below w.heap.size w w7 from But.toBelow HB6.out hb7.out HGE5.out HB6.out.size)
    have HD57 := Lib.hid (show Below w5.heap.size w5 w7 from But.toBelow HD56.out hb7.out (by rw [HGEQ.out]; exact Nat.le_refl _) HD56.out.size)
    have HF7 := Lib.hid (HF5.out.below HD57.out)
    have HX7 := Lib.hid (HX5.out.below HD57.out)
    clear hc7 hb7 hmi HR9 HSE HSE2 HE6 HD6 HB6 HD56 HD57 HX6 HF6 HX5 HF5 hmk k0i
    go_upto_region 9 with (fail)
    obtain ⟨a9, ha9⟩ : ∃ a : Option Addr, a = some ⟨b9, o9, none⟩ := ⟨_, rfl⟩
    rw [← ha9] at HF7 ⊢
    clear ha9
  case' neg =>
    have k0i : ¬ (0 : Int) < (k : Int) := by omega
    have hpe := HEND0.out (by omega)
    rw [← hpe] at HE6
    clear hpe
    go_wp2_with fail
    obtain ⟨w7, hw7⟩ : ∃ x, x = w6 := ⟨_, rfl⟩
    rw [← hw7] at HE6 HD6 HB6 HF6 HX6 ⊢
    have HE7 := Lib.hid HE6.out
    have HD7 := Lib.hid HD6.out
    have HB7 := Lib.hid HB6.out
    have HF7 := Lib.hid HF6.out
    have HX7 := Lib.hid HX6.out
    clear hw7 HE6 HD6 HB6 HD56 HX6 HF6 HX5 HF5 k0i
  all_goals
    have HSE := Lib.hid (show (Tryd.prog.info? 24).map (·.size) = some E.length by rw [HEO.out.1]; exact Tryd.sizeI)
    have HADD := Lib.hid (add_at i k H3.out.2.1 H3.out.2.2 (by have := H3.out.1; omega))
    have HDR7 := Lib.hid (fun w' (b : Below w7.heap.size w7 w') => HDR.out w' (HD7.out.trans (b.mono HD7.out.size)))
    clear HDR
    refine wp_region_free 8 (fun q V w' => Vals q V [(0, .agg (nums .u8 E).toArray), (1, .int .i64 i), (2, .int .i64 (k : Int)), (3, .int .i64 (i + k)), (4, .slice ao n ca), (5, .int .i64 (k : Int)), (6, .slice ro (n - k) (ca - k))] ∧ Res q V 7 (fun (v : Value) (w' : World) => ∃ (ao : Option Addr) (c : Nat), v = Value.slice ao (n - k) c ∧ IAt ao RL w') w' ∧ Below w7.heap.size w7 w') (fun _ => undef) (by kernel_rfl) (by kernel_rfl) (by kernel_rfl) (by simp only [List.take_succ_cons, List.take_zero, putAll, Act.put, List.setIfInBounds_toArray, List.set_cons_zero, List.set_cons_succ]) ⟨Vals.none, Res.none, (Below.refl _ _).drew⟩ ?_ ?_
    · simp only [List.take_succ_cons, List.take_zero, putAll, Nat.zero_add, Nat.reduceAdd, Act.put, List.setIfInBounds_toArray, List.set_cons_zero, List.set_cons_succ]
      refine FreeSteps.cons ?_ (FreeSteps.cons ?_ (FreeSteps.cons ?_ (FreeSteps.cons ?_ (FreeSteps.cons ?_ (FreeSteps.cons ?_ (FreeSteps.cons ?_ (FreeSteps.cons ?_ (FreeSteps.nil))))))))
      all_goals (refine FreeStep.fresh rfl ?_; rintro q V wq hr hu ⟨hVs, h7, hb⟩ K hK)
      · exact op_load_nums 24 (.tmp 11) rfl ge .u8 E 24 _ rfl (HE7.out.below hb) Tryd.underlying24 rfl HSE.out (hK _ _ ⟨hVs.set rfl, h7.ne (by decide) (fun _ _ _ ⟨ao, c, e, h⟩ k => ⟨ao, c, e, h.below k⟩) (Below.refl _ _), hb⟩)
      · exact op_move (.tmp 1) rfl _ rfl (hK _ _ ⟨hVs.set rfl, h7.ne (by decide) (fun _ _ _ ⟨ao, c, e, h⟩ k => ⟨ao, c, e, h.below k⟩) (Below.refl _ _), hb⟩)
      · exact op_move (.tmp 3) rfl _ rfl (hK _ _ ⟨hVs.set rfl, h7.ne (by decide) (fun _ _ _ ⟨ao, c, e, h⟩ k => ⟨ao, c, e, h.below k⟩) (Below.refl _ _), hb⟩)
      · exact op_bin .add 3 _ (.tmp 56) (.tmp 57) rfl _ _ _ (hVs.get 1 (hr { on := 1, ground := .data } (by simp) rfl) rfl) (hVs.get 2 (hr { on := 2, ground := .data } (by simp) rfl) rfl) (fun _ => rfl) HADD.out (hK _ _ ⟨hVs.set rfl, h7.ne (by decide) (fun _ _ _ ⟨ao, c, e, h⟩ k => ⟨ao, c, e, h.below k⟩) (Below.refl _ _), hb⟩)
      · exact op_move (.tmp 2) rfl _ rfl (hK _ _ ⟨hVs.set rfl, h7.ne (by decide) (fun _ _ _ ⟨ao, c, e, h⟩ k => ⟨ao, c, e, h.below k⟩) (Below.refl _ _), hb⟩)
      · exact op_move (.tmp 3) rfl _ rfl (hK _ _ ⟨hVs.set rfl, h7.ne (by decide) (fun _ _ _ ⟨ao, c, e, h⟩ k => ⟨ao, c, e, h.below k⟩) (Below.refl _ _), hb⟩)
      · exact op_slice_lo 23 (.tmp 59) (.tmp 60) rfl _ _ _ (hVs.get 4 (hr { on := 4, ground := .data } (by simp) rfl) rfl) (hVs.get 5 (hr { on := 5, ground := .data } (by simp) rfl) rfl) HSLL.out (hK _ _ ⟨hVs.set rfl, h7.ne (by decide) (fun _ _ _ ⟨ao, c, e, h⟩ k => ⟨ao, c, e, h.below k⟩) (Below.refl _ _), hb⟩)
      · refine op_call Tryd.func10 rfl rfl rfl [.agg (nums .u8 E).toArray, .int .i64 (i + k), .slice ro (n - k) (ca - k)] (cons_eq (hVs.get 0 (hr { on := 0, ground := .data } (by simp) rfl) rfl) (cons_eq (hVs.get 3 (hr { on := 3, ground := .data } (by simp) rfl) rfl) (cons_eq (hVs.get 6 (hr { on := 6, ground := .data } (by simp) rfl) rfl) rfl))) (HDR7.out wq hb) ?_
        rintro e w' ⟨⟨vr, rfl, ho⟩, hb'⟩
        obtain ⟨ar, cr, rfl⟩ := ho.form
        have hat := ho.at HRI.out
        have hres : (fun (v : Value) (w' : World) => ∃ (ao : Option Addr) (c : Nat), v = Value.slice ao (n - k) c ∧ IAt ao RL w') (.slice ar (RL).length cr) w' := ⟨ar, cr, by rw [HRN.out], hat⟩
        exact ⟨_, rfl, (hK _ _ ⟨hVs.off rfl, .same hres, hb.trans (hb'.mono hb.size)⟩)⟩
    rintro q V wq hall ⟨hVs, h7, hb⟩
    have v0 := hVs.get 0 (hall 0 (by decide)) rfl
    have v1 := hVs.get 1 (hall 1 (by decide)) rfl
    have v2 := hVs.get 2 (hall 2 (by decide)) rfl
    have v3 := hVs.get 3 (hall 3 (by decide)) rfl
    have v4 := hVs.get 4 (hall 4 (by decide)) rfl
    have v5 := hVs.get 5 (hall 5 (by decide)) rfl
    have v6 := hVs.get 6 (hall 6 (by decide)) rfl
    have hs7 := h7 (hall 7 (by decide))
    obtain ⟨u7, v7⟩ : ∃ v, V 7 = v := ⟨_, rfl⟩
    rw [v7] at hs7
    simp only [List.take_succ_cons, List.take_zero, List.drop_succ_cons, List.drop_zero, putAll, Nat.zero_add, Nat.reduceAdd, v0, v1, v2, v3, v4, v5, v6, v7, Act.put, List.setIfInBounds_toArray, List.set_cons_zero, List.set_cons_succ]
    clear hVs v0 v1 v2 v3 v4 v5 v6 v7 hall
    obtain ⟨w8, hw8⟩ : ∃ x, x = wq := ⟨_, rfl⟩
    rw [← hw8] at hb hs7 ⊢
    obtain ⟨a7, c7, rfl, hi7⟩ := hs7
    have HB8 := Lib.hid (HB7.out.trans (hb.mono HB7.out.size))
    have HF8 := Lib.hid (HF7.out.below hb)
    have HX8 := Lib.hid (HX7.out.below hb)
    have HR8 := Lib.hid hi7
    clear hw8 hb hi7 HDR7 HE7 HD7 HB7 HF7 HX7
    go_wp2_with fail
    go_loopw [65] (fun c wr => ∃ j : Nat, j ≤ n ∧ c = .int .i64 j ∧ Below w8.heap.size w8 wr) (fun c _ => n - (intOf c).toNat)
    case atStart => exact ⟨0, Nat.zero_le _, rfl, Below.refl _ _⟩
    case round =>
      obtain ⟨w9, rfl⟩ : ∃ z, z = wr := ⟨_, rfl⟩
      obtain ⟨j, hj, rfl, hb⟩ := hrel
      have HB9 := Lib.hid hb
      have HW9 := Lib.hid (HB8.out.trans (hb.mono HB8.out.size))
      have HF9 := Lib.hid (HF8.out.below hb)
      have HX9 := Lib.hid (HX8.out.below hb)
      have HR9 := Lib.hid (HR8.out.below hb)
      clear hb
      by_cases hjn : j < n
      · obtain ⟨Z, hZ⟩ : ∃ Z, XL[j]? = some Z := ⟨_, List.getElem?_eq_getElem (by rw [HXN.out]; exact hjn)⟩
        have HZO := Lib.hid (HXI.out Z (List.mem_of_getElem? hZ))
        obtain ⟨bx, ox, rfl, hlx, hrx⟩ := row_at HX9.out HXN.out hjn hZ
        have HRX := Lib.hid hrx
        have HSZ := Lib.hid (show (Tryd.prog.info? 24).map (·.size) = some Z.length by rw [HZO.out.1]; exact Tryd.sizeI)
        have HSZ2 := Lib.hid (show (Tryd.prog.info? 24).map (·.size) = some (nums .u8 Z).length by rw [nums_len, HZO.out.1]; exact Tryd.sizeI)
        have HZI := Lib.hid (show (Tryd.prog.info? 24).bind (·.zero) = some (.agg (nums .u8 (List.replicate 32 0)).toArray) by kernel_rfl)
        have HNZ := Lib.hid (neq_same Z HZO.out)
        have HZL := Lib.hid (show (List.replicate 32 0).length = Z.length by rw [HZO.out.1]; rfl)
        have hZ2 : (FL ++ RL)[j]? = some Z := by rw [← HAPP.out]; exact hZ
        have HZF := Lib.hid (show j < k → FL[j]? = some Z from fun h => by rw [List.getElem?_append_left (by rw [HFN.out]; exact h)] at hZ2; exact hZ2)
        have HZR := Lib.hid (show k ≤ j → RL[j - k]? = some Z from fun h => by rw [List.getElem?_append_right (by rw [HFN.out]; exact h), HFN.out] at hZ2; exact hZ2)
        clear hZ hZ2 hlx hrx
        go_wp2_with (first
          | (refine wpList_load_mid rfl 24 _ rfl bx (ox + j * 32) rfl _ _ HRX.out Tryd.underlying24 rfl HSZ2.out ?_)
          | (refine wpList_alloc_of rfl 24 rfl (nums .u8 (List.replicate 32 0)) HZI.out ?_)
          | (refine wpList_store_nums rfl 24 _ _ rfl rfl w9.heap.size .u8 (List.replicate 32 0) Z 24 rfl rfl (heap_alloc_new w9 _) HSZ.out HZL.out ?_))
        intro w10 hc10 hb10
        have hb1010 : Below w9.heap.size w9 w10 := But.toBelow ((Below.refl _ w9).alloc (Nat.le_refl _) _) hb10.out (Nat.le_refl _) (by rw [World.size_alloc]; exact Nat.le_succ _)
        have HC10 := Lib.hid (show Blk w9.heap.size 24 .u8 Z w10 from hc10.out)
        have HB10 := Lib.hid (HB9.out.trans (hb1010.mono HB9.out.size))
        have HF10 := Lib.hid (HF9.out.below hb1010)
        have HR10 := Lib.hid (HR9.out.below hb1010)
        obtain ⟨gh, hgh⟩ : ∃ g, g = w9.heap.size := ⟨_, rfl⟩
        rw [← hgh] at HC10 ⊢
        have HLZ := Lib.hid (fun (w' : World) (b : Below w10.heap.size w10 w') => Cells.below HC10.out b)
        clear hc10 hb10 hb1010 hgh HRX HZI HZL HC10
        by_cases hjk : j < k
        · have HLS := Lib.hid (show ∀ w, (binOp .lss 3 (.int .i64 (j : Int)) (.int .i64 (k : Int))).run Tryd.prog w = .ok (.bool true) w from fun w => by
            have : (j : Int) < (k : Int) := by omega
            go_simp)
          have HGE := Lib.hid (show ∀ w, (binOp .geq 3 (.int .i64 (j : Int)) (.int .i64 (k : Int))).run Tryd.prog w = .ok (.bool false) w from fun w => by
            have : ¬ (k : Int) ≤ (j : Int) := by omega
            go_simp)
          obtain ⟨bq, oq, rfl, hlq, hrq⟩ := row_at HF10.out HFN.out hjk (HZF.out hjk)
          have HIX := Lib.hid (index_id bq oq k c9 j hjk)
          have HRQ := Lib.hid (fun (w' : World) (b : Below w10.heap.size w10 w') => rangeAt_belowI hrq b hlq)
          clear hlq hrq
          go_upto_region 13 with (fail)
          refine wp_region_class (fun w' => Below w10.heap.size w10 w') (by kernel_rfl) (by kernel_rfl) (Below.refl _ _).drew ?_
          repeat (first
            | go_big_quiet_skip
            | (go_big_quiet_want; refine quiet_bin .lss 3 _ _ _ rfl (.int .i64 (j : Int)) (.int .i64 (k : Int)) _ rfl rfl (fun _ => rfl) HLS.out ?_; go_big_quiet_on; simp only [Act.put, List.setIfInBounds_toArray, List.set_cons_zero, List.set_cons_succ])
            | (go_big_quiet_want; refine quiet_bin .geq 3 _ _ _ rfl (.int .i64 (j : Int)) (.int .i64 (k : Int)) _ rfl rfl (fun _ => rfl) HGE.out ?_; go_big_quiet_on; simp only [Act.put, List.setIfInBounds_toArray, List.set_cons_zero, List.set_cons_succ])
            | (go_big_quiet_want; refine quiet_load_nums 24 _ rfl gh .u8 Z 24 _ rfl HLZ.out Tryd.underlying24 rfl HSZ.out ?_; go_big_quiet_on; simp only [Act.put, List.setIfInBounds_toArray, List.set_cons_zero, List.set_cons_succ])
            | (go_big_quiet_want; refine quiet_indexAt 29 _ _ rfl (.slice (some ⟨bq, oq, none⟩) k c9) (.int .i64 ((j : Nat) : Int)) _ rfl rfl HIX.out ?_; go_big_quiet_on; simp only [Act.put, List.setIfInBounds_toArray, List.set_cons_zero, List.set_cons_succ])
            | (go_big_quiet_want; refine quiet_load_row 24 _ rfl bq (oq + (j) * 32) (nums .u8 Z) _ rfl HRQ.out Tryd.underlying24 rfl HSZ2.out ?_; go_big_quiet_on; simp only [Act.put, List.setIfInBounds_toArray, List.set_cons_zero, List.set_cons_succ])
            | (go_big_quiet_want; refine quiet_bin .neq 24 _ _ _ rfl (.agg (nums .u8 Z).toArray) (.agg (nums .u8 Z).toArray) _ rfl rfl (guard_neq _ _ _ _) HNZ.out ?_; go_big_quiet_on; simp only [Act.put, List.setIfInBounds_toArray, List.set_cons_zero, List.set_cons_succ])
            | go_big_quiet_step ((intro hs'; rfl)))
          refine wpQuiet_nil ?_
          intro w11 hs11
          have HB11 := Lib.hid (HB10.out.trans (hs11.mono HB10.out.size))
          clear hs11
          go_wp2_with fail
          exact ⟨⟨j + 1, by omega, by go_num, HB11.out⟩, by simp [intOf]; omega⟩
        · have HLS := Lib.hid (show ∀ w, (binOp .lss 3 (.int .i64 (j : Int)) (.int .i64 (k : Int))).run Tryd.prog w = .ok (.bool false) w from fun w => by
            have : ¬ (j : Int) < (k : Int) := by omega
            go_simp)
          have HGE := Lib.hid (show ∀ w, (binOp .geq 3 (.int .i64 (j : Int)) (.int .i64 (k : Int))).run Tryd.prog w = .ok (.bool true) w from fun w => by
            have : (k : Int) ≤ (j : Int) := by omega
            go_simp)
          have HSU := Lib.hid (sub_at j k (by omega) (by have := H3.out.1; omega))
          obtain ⟨bq, oq, rfl, hlq, hrq⟩ := row_at HR10.out HRN.out (show j - k < n - k by omega) (HZR.out (by omega))
          have HIX := Lib.hid (index_id bq oq (n - k) c7 (j - k) (by omega))
          have HRQ := Lib.hid (fun (w' : World) (b : Below w10.heap.size w10 w') => rangeAt_belowI hrq b hlq)
          clear hlq hrq
          go_upto_region 13 with (fail)
          refine wp_region_class (fun w' => Below w10.heap.size w10 w') (by kernel_rfl) (by kernel_rfl) (Below.refl _ _).drew ?_
          repeat (first
            | go_big_quiet_skip
            | (go_big_quiet_want; refine quiet_bin .lss 3 _ _ _ rfl (.int .i64 (j : Int)) (.int .i64 (k : Int)) _ rfl rfl (fun _ => rfl) HLS.out ?_; go_big_quiet_on; simp only [Act.put, List.setIfInBounds_toArray, List.set_cons_zero, List.set_cons_succ])
            | (go_big_quiet_want; refine quiet_bin .geq 3 _ _ _ rfl (.int .i64 (j : Int)) (.int .i64 (k : Int)) _ rfl rfl (fun _ => rfl) HGE.out ?_; go_big_quiet_on; simp only [Act.put, List.setIfInBounds_toArray, List.set_cons_zero, List.set_cons_succ])
            | (go_big_quiet_want; refine quiet_load_nums 24 _ rfl gh .u8 Z 24 _ rfl HLZ.out Tryd.underlying24 rfl HSZ.out ?_; go_big_quiet_on; simp only [Act.put, List.setIfInBounds_toArray, List.set_cons_zero, List.set_cons_succ])
            | (go_big_quiet_want; refine quiet_bin .sub 3 _ _ _ rfl (.int .i64 (j : Int)) (.int .i64 (k : Int)) _ rfl rfl (fun _ => rfl) HSU.out ?_; go_big_quiet_on; simp only [Act.put, List.setIfInBounds_toArray, List.set_cons_zero, List.set_cons_succ])
            | (go_big_quiet_want; refine quiet_indexAt 29 _ _ rfl (.slice (some ⟨bq, oq, none⟩) (n - k) c7) (.int .i64 ((j - k : Nat) : Int)) _ rfl rfl HIX.out ?_; go_big_quiet_on; simp only [Act.put, List.setIfInBounds_toArray, List.set_cons_zero, List.set_cons_succ])
            | (go_big_quiet_want; refine quiet_load_row 24 _ rfl bq (oq + (j - k) * 32) (nums .u8 Z) _ rfl HRQ.out Tryd.underlying24 rfl HSZ2.out ?_; go_big_quiet_on; simp only [Act.put, List.setIfInBounds_toArray, List.set_cons_zero, List.set_cons_succ])
            | (go_big_quiet_want; refine quiet_bin .neq 24 _ _ _ rfl (.agg (nums .u8 Z).toArray) (.agg (nums .u8 Z).toArray) _ rfl rfl (guard_neq _ _ _ _) HNZ.out ?_; go_big_quiet_on; simp only [Act.put, List.setIfInBounds_toArray, List.set_cons_zero, List.set_cons_succ])
            | go_big_quiet_step ((intro hs'; rfl)))
          refine wpQuiet_nil ?_
          intro w11 hs11
          have HB11 := Lib.hid (HB10.out.trans (hs11.mono HB10.out.size))
          clear hs11
          go_wp2_with fail
          exact ⟨⟨j + 1, by omega, by go_num, HB11.out⟩, by simp [intOf]; omega⟩
      · obtain rfl : j = n := by omega
        have e0 : ((j : Int) == (j : Int)) = true := by simp
        have e1 : (k : Int) + ((j - k : Nat) : Int) = (j : Int) := by omega
        go_wp2_with fail
        go_ret
        exact ⟨rfl, HW9.out⟩
end Go.Proofs.YtpfhlhcnmeodbaaDoor.chainParts
namespace Go.Proofs.YtpfhlhcnmeodbaaDoor.chainParts
open Go.ChangeShapes Go.WideShapes Go.ChangeAt Go.RowKit
open Go.ChangeMaps (open_string shut_string)
set_option linter.unusedVariables false
theorem laid_met (os : Os) : laidMet Tryd.prog Rows.chainPartsRow.laid ((laidWorld os).forCall (fun _ _ => 0) ⟨#[], #[.agg (nums .u8 zeroI).toArray, .int .i64 0, .slice none 0 0, .int .i64 0], []⟩).memory :=
  laidMet_of_run' 8 (by kernel_rfl) (by kernel_rfl)
theorem reads (os : Os) {H : Type} (enc : TypeId × Value → H) : ∃ x, DataW.whole enc Tryd.prog ((laidWorld os).forCall (fun _ _ => 0) ⟨#[], #[.agg (nums .u8 zeroI).toArray, .int .i64 0, .slice none 0 0, .int .i64 0], []⟩).memory Tryd.f6.params.toList Rows.chainPartsSpec.vars false (#[.agg (nums .u8 zeroI).toArray, .int .i64 0, .slice none 0 0, .int .i64 0] : Array Value).toList 8 = some x :=
  ⟨([.agg [.lit (.int .u8 0), .lit (.int .u8 0), .lit (.int .u8 0), .lit (.int .u8 0), .lit (.int .u8 0), .lit (.int .u8 0), .lit (.int .u8 0), .lit (.int .u8 0), .lit (.int .u8 0), .lit (.int .u8 0), .lit (.int .u8 0), .lit (.int .u8 0), .lit (.int .u8 0), .lit (.int .u8 0), .lit (.int .u8 0), .lit (.int .u8 0), .lit (.int .u8 0), .lit (.int .u8 0), .lit (.int .u8 0), .lit (.int .u8 0), .lit (.int .u8 0), .lit (.int .u8 0), .lit (.int .u8 0), .lit (.int .u8 0), .lit (.int .u8 0), .lit (.int .u8 0), .lit (.int .u8 0), .lit (.int .u8 0), .lit (.int .u8 0), .lit (.int .u8 0), .lit (.int .u8 0), .lit (.int .u8 0)], .lit (.int .i64 0), .nil, .lit (.int .i64 0)], [], []), by kernel_rfl⟩
set_option maxRecDepth 100000 in
theorem lifted (os : Os) (started : os.Started) (H : Type) (enc : TypeId × Value → H) (F : Stop.Interp) :
    ReturnsInHanded {} Tryd.checked os 6 .any ((OpenSpec.ofChange Rows.chainPartsSpec).preRow enc Tryd.prog Tryd.f6 Rows.chainPartsRow.domain false Rows.chainPartsRow.laid) (((OpenSpec.ofChange Rows.chainPartsSpec).at F).post enc Tryd.prog Tryd.f6 false true false false) := by
  obtain ⟨x, hx⟩ := reads os enc
  refine returnsInHanded_of_row (C := Tryd.checked) (s := OpenSpec.ofChange Rows.chainPartsSpec) law_own started (by kernel_rfl) Tryd.func6
    (witness_row_at (enc := enc) (C := Tryd.checked) false (laidWorld os) #[.agg (nums .u8 zeroI).toArray, .int .i64 0, .slice none 0 0, .int .i64 0] rfl (by kernel_rfl) (by kernel_rfl) (by kernel_rfl)
      (OpenSpec.preRow_of_cond 8 hx rfl (fun k hk => by cases hk) (by kernel_rfl) (laid_met os))) ?_
  intro W base args ds gs before hval0 hW hcnd _ hsz0 hL _ _
  have hk : KAt W := k_laid hL
  have hsz : (DataW.weightsEach Tryd.prog (Tryd.f6.params.toList ++ (OpenSpec.ofChange Rows.chainPartsSpec).bare.plain.varTypes Tryd.prog) (ds ++ gs)).all (· ≤ reachBytes) = true := hsz0
  have hval : ∀ (j : Nat) t v, Tryd.f6.params[j]? = some t → args[j]? = some v → Value.okWide Tryd.prog W .any base t v := hval0
  have hW' := hW
  obtain ⟨p, q, hA0, hV, rfl, hfz, hnd⟩ := hW
  have hA : DataW.TrodAll enc Tryd.prog W 0 (fun _ => true) true Tryd.f6.params.toList args.toList ds p := hA0
  rw [Tryd.params6] at hA hval hsz
  obtain ⟨v0, vs0, d0, ds0, p0, q0, hargs, rfl, rfl, h0, r0⟩ := trodAll_cons hA
  obtain ⟨v1, vs1, d1, ds1, p1, q1, rfl, rfl, rfl, h1, r1⟩ := trodAll_cons r0
  obtain ⟨v2, vs2, d2, ds2, p2, q2, rfl, rfl, rfl, h2, r2⟩ := trodAll_cons r1
  obtain ⟨v3, vs3, d3, ds3, p3, q3, rfl, rfl, rfl, h3, r3⟩ := trodAll_cons r2
  obtain ⟨rfl, rfl, rfl⟩ := trodAll_nil r3
  obtain rfl : args = #[v0, v1, v2, v3] := by cases args; simp_all
  obtain ⟨rfl, rfl⟩ := trodVars_none hV
  have k0 := h0
  have lt0 : ∀ x ∈ p0, x.block < W.heap.size := by obtain ⟨m, hm⟩ := k0; exact DataW.trod_lt m _ _ _ hm
  have z0 : ∀ n ∈ DataW.weights Tryd.prog 22 d0, n ≤ 140737488351232 := fun n hn => of_decide_eq_true (List.all_eq_true.1 hsz n (DataW.weights_mem_each (j := 0) (t := 22) rfl rfl n hn))
  obtain ⟨l0, rfl, n0⟩ := open_name Tryd.underlying22 Tryd.underlying5 (by kernel_rfl) (by kernel_rfl) (hval 0 22 v0 rfl rfl) h0
  obtain ⟨a1, rfl, rfl, rfl, w1⟩ := open_int Tryd.underlying3 (hval 1 3 v1 rfl rfl) h1
  have k2 := h2
  have lt2 : ∀ x ∈ p2, x.block < W.heap.size := by obtain ⟨m, hm⟩ := k2; exact DataW.trod_lt m _ _ _ hm
  have z2 : ∀ n ∈ DataW.weights Tryd.prog 23 d2, n ≤ 140737488351232 := fun n hn => of_decide_eq_true (List.all_eq_true.1 hsz n (DataW.weights_mem_each (j := 2) (t := 23) rfl rfl n hn))
  obtain ⟨ao2, l2, c2, rfl, s2, n2, t2, r2c⟩ := open_entc (hval 2 23 v2 rfl rfl) h2 z2
  obtain ⟨a3, rfl, rfl, rfl, w3⟩ := open_int Tryd.underlying3 (hval 3 3 v3 rfl rfl) h3
  clear hA0 hval0
  refine (walk W hk l0 n0 a1 w1 ao2 l2 c2 s2 n2 t2 r2c a3 w3).mono fun e W' ⟨he, bel⟩ => ?_
  subst he
  exact ⟨_, rfl, _, _, _, [], _, [], hW', trodAll_mk1 (shut_bool Tryd.underlying4 _), (trodAll_cons_mk (Below.trod law_laidOut (by kernel_rfl) (of_decide_eq_true (by kernel_rfl)) k0 bel lt0) (trodAll_cons_mk (shut_int Tryd.underlying3 w1) (trodAll_cons_mk (Below.trod law_laidOut (by kernel_rfl) (of_decide_eq_true (by kernel_rfl)) k2 bel lt2) (trodAll_cons_mk (shut_int Tryd.underlying3 w3) trodAll_mk0)))), rfl, bel.frame _, fun h => by cases h⟩
theorem said : Rows.ChainPartsSaid :=
  OpenClaim.holds_of_cond 6 Tryd.f6 rfl rfl rfl rfl rfl rfl rfl ⟨rfl, rfl, rfl, rfl, rfl⟩ rfl rfl rfl rfl rfl (by kernel_rfl) Tryd.func6 (by kernel_rfl)
    (of_decide_eq_true (by kernel_rfl)) (by unfold Func.isWrapper; first | (rw [if_pos (by decide +kernel)]; kernel_rfl) | (rw [if_neg (by decide +kernel)]; exact ⟨rfl, rfl⟩))
    (fun os started H enc _ F => by rw [OpenClaim.pre_eq_preRow]; exact lifted os started H enc F)
theorem plain (f : FuncId) (fn : Func) (hf : Tryd.pinned.checked.prog.funcNamed "tribunal/tribunallaw16.ChainParts" = some f) (hfn : Tryd.pinned.checked.prog.funcs[f]? = some fn) :
    false = Tryd.pinned.checked.prog.looks [] ∧ ∀ (j : Nat) t, fn.params[j]? = some t → Tryd.pinned.checked.prog.wantsStandIn t = false := by
  obtain rfl : f = 6 := Option.some.inj ((show Tryd.prog.funcNamed "tribunal/tribunallaw16.ChainParts" = some 6 by kernel_rfl).symm.trans hf) |>.symm
  obtain rfl : fn = Tryd.f6 := (Option.some.inj (Tryd.func6.symm.trans hfn)).symm
  refine ⟨by kernel_rfl, fun j t ht => ?_⟩
  have hall : Tryd.f6.params.toList.all (fun t => !Tryd.prog.wantsStandIn t) = true := by kernel_rfl
  have hm : t ∈ Tryd.f6.params.toList := Array.mem_toList_iff.2 (Array.mem_of_getElem? ht)
  have h0 := List.all_eq_true.1 hall t hm
  have h1 : Tryd.prog.wantsStandIn t = false := by simpa using h0
  exact h1
theorem proved : Rows.ChainPartsCardSaid :=
  Claim7.holds_tied_plain_at .later [] _ _ _ _ said (fun _ h => by cases h) (by kernel_rfl) (fun _ h => by cases h) chainParts_row_tie rfl ⟨rfl, rfl⟩ (by kernel_rfl) rfl plain (by kernel_rfl)
#print axioms proved
end Go.Proofs.YtpfhlhcnmeodbaaDoor.chainParts
