/-
  Joined: The developers' log: Append. Written by chain/gen/gen_app.py.; What the laws of layer 16 ask first: alive, great.; The document's GoodDraft.; Rows of texts of the call's own: one text, or a slice's texts, pushed.; An element's address, in a region whose order is open.; The document's Good of layer 15.; The document's num, DraftText.
-/
import Derived.Deep.Cut
import Derived.Deep.CutBlock
import Derived.Deep.CutRange
import Derived.Laws.AppendOwnNone
import Derived.Test.YtpfhlhcnmeodbaaDoorJ01
import Derived.Test.YtpfhlhcnmeodbaaDoorJ02
import Derived.Test.YtpfhlhcnmeodbaaDoorJ05
import Derived.Test.YtpfhlhcnmeodbaaDoorJ06
import Derived.Test.YtpfhlhcnmeodbaaDoorJ07
import Derived.Test.YtpfhlhcnmeodbaaDoorJ08
namespace Go.Proofs.YtpfhlhcnmeodbaaDoor
open Go.RowKit Go.BigFrame
theorem OwnI.rows {B : Nat} {e : TypeId} {v : Value} {L : List (List Nat)} {w : World} (h : OwnI B e v L w) : OwnR B 32 e v (L.map (nums .u8)) w := by
  unfold OwnR
  rw [List.length_map, ← List.flatMap_def]
  exact h
theorem OwnR.ids {B : Nat} {e : TypeId} {v : Value} {L : List (List Nat)} {w : World} (h : OwnR B 32 e v (L.map (nums .u8)) w) : OwnI B e v L w := by
  unfold OwnR at h
  rw [List.length_map, ← List.flatMap_def] at h
  exact h
theorem wide_ids {L : List (List Nat)} (h : Ids L) : Wide 32 (L.map (nums .u8)) := wide_map fun x hx => by rw [nums_len, (h x hx).1]
theorem OwnI.nocap {B : Nat} {e : TypeId} {n c : Nat} {L : List (List Nat)} {w : World} (h : OwnI B e (.slice none n c) L w) : c = 0 := by
  rcases h.2 with ⟨h1, _⟩ | ⟨g, cap, cur, h1, _⟩
  · simp only [Value.slice.injEq] at h1
    exact h1.2.2
  · cases h1
theorem op_push_ids {w : World} {o : Oper} {a : Act} {K : Act → World → Prop} {Q : Exit → Act → World → Prop} (hgd : o.guard = none) (s x : Operand) (ho : o.op = .call { callee := .builtin .append, args := #[s, x], argTypes := #[29, 29] })
    (B B2 : Nat) (v u : Value) (L M : List (List Nat)) (hM : Ids M) (hs : a.eval s = v) (hown : OwnI B 24 v L w) (hx : a.eval x = u) (hsrc : OwnI B2 24 u M w) (h63 : L.length + M.length ≤ 1000000) (hB : B ≤ w.heap.size)
    (h : ∀ v' w', OwnI B 24 v' (L ++ M) w' → w.grownBy w' v.ownBlock → (v'.ownBlock = v.ownBlock ∨ v'.ownBlock = some w.heap.size) → K (a.put o.dst v') w') : OpWp Tryd.prog o a w K Q := by
  obtain ⟨ao, c, rfl⟩ := hsrc.form
  refine op_of_list (ops := #[]) hgd (wpList_append_rowsv hgd s x 29 24 ho B 32 32 (.agg (nums .u8 (List.replicate 32 0)).toArray) rfl (by decide) (by decide) Tryd.underlying29 Tryd.infoI32 v (L.map (nums .u8)) (M.map (nums .u8)) (wide_ids hM) (fun y hy => by
    obtain ⟨c, hc, hy⟩ := List.mem_flatten.1 hy
    obtain ⟨e, _, rfl⟩ := List.mem_map.1 hc
    exact nums_one _ _ y hy) ao M.length c (by rw [List.length_map]) hs hown.rows hx (hsrc.rows.rat (wide_ids hM)) (fun e => by subst e; exact hsrc.nocap) (by rw [List.length_map, List.length_map]; exact h63) hB (fun v' w' h1 h2 h3 => ⟨rfl, h v' w' ?_ h2.out h3.out⟩))
  have q := h1.out
  rw [← List.map_append] at q
  exact q.ids
def AppM (w9 : World) (gH : Nat) (hs : List Nat) (W A : List (List Nat)) : Nat → Value → World → Prop
  | 0, _, w' => Below w9.heap.size w9 w'
  | 1, v, w' => v = .agg (nums .u8 hs).toArray ∧ Below w9.heap.size w9 w'
  | 2, v, w' => OwnI w9.heap.size 24 v W w' ∧ Below w9.heap.size w9 w'
  | _, v, w' => OwnI 0 24 v A w' ∧ (∀ z, v.ownBlock = some z → z = gH ∨ w9.heap.size ≤ z)
theorem field_logD3 (g : Nat) (w : World) : (Instr.fieldAt 102 (.pointer (some ⟨g, 0, none⟩)) 3).run Tryd.prog w = .ok (.pointer (some ⟨g, 3, none⟩)) w := by kernel_rfl
theorem index_id16 (b n c j : Nat) (hj : j < n) (w : World) : (Instr.indexAt 29 (.slice (some ⟨b, 0, none⟩) n c) (.int .i64 (j : Int))).run Tryd.prog w = .ok (.pointer (some ⟨b, j * 32, none⟩)) w := by
  have h1 : (j : Int) < (n : Int) := by omega
  go_simp
theorem rows_apart {K K2 : Nat} {e e2 : TypeId} {v v2 : Value} {C C2 : List (List Value)} {w : World} (h : RowK K e v C w) (h2 : RowK K2 e2 v2 C2 w) (hne : e ≠ e2) {z : Nat} (hz : v.ownBlock = some z) : v2.ownBlock ≠ some z := fun hu => by
  obtain ⟨c1, h3⟩ := h.heap hz
  obtain ⟨c2, h4⟩ := h2.heap hu
  rw [h3] at h4
  simp only [Option.some.injEq, Obj.cells.injEq] at h4
  exact hne h4.2.1
theorem appE_one {h : Nat} {L M : List EntN} {x : EntN} (hx : x ∈ M) (hg : ¬ GoodE x) : appE h L M = 1 := by rw [appE, if_neg (fun q => hg (q x hx))]
theorem appL_no {h : Nat} {L M : List EntN} (e : appE h L M ≠ 0) : appL h L M = L := by rw [appL, if_neg e]
theorem appL_yes {h : Nat} {L M : List EntN} (e : appE h L M = 0) : appL h L M = L ++ M := by rw [appL, if_pos e]
set_option maxHeartbeats 8000000 in
set_option maxRecDepth 100000 in
theorem dev_append {N : Nat} {O : Nat → Prop} {v : Value} {nd : Int} {seed : List UInt8} {h : Nat} {L : List EntN} (ao : Option Addr) (M : List EntN) (c : Nat) (w : World) (l : LogIs N O v nd seed h L w) (hl : L.length ≤ 2 ^ h) (_hL : ∀ x ∈ L, x.Len ∧ x.seq < 9223372036854775808) (hM : ∀ x ∈ M, x.Len ∧ x.seq < 9223372036854775808) (hn : M.length ≤ 1000000)
    (hat : EntsAt ao M w) (hnl : ao = none → c = 0) (hap : M ≠ [] → ∀ a, ao = some a → ¬ O a.block) (hk : KAt w) (hN : 0 < N) :
    Calls Tryd.prog 31 #[v, .slice ao M.length c] w fun e w' => e = .returned (.int .i64 (appE h L M : Nat)) ∧ ∃ O', LogIs N O' v nd seed h (appL h L M) w' ∧ Turn O O' w w' := by
  have HL := Lib.hid l
  have HLH := Lib.hid hl
  have HMM := Lib.hid hM
  have HAT := Lib.hid hat
  have HNL := Lib.hid hnl
  have HAP := Lib.hid hap
  have HK := Lib.hid hk
  have HKN := Lib.hid hN
  obtain ⟨va, rfl⟩ := l.ptr
  obtain ⟨m, hm⟩ : ∃ m, M.length = m := ⟨_, rfl⟩
  have HM := Shut.mk hm
  rw [hm] at hn ⊢
  have HZE := Lib.hid (show (Tryd.prog.info? 35).bind (·.zero) = some (.agg (entL noE).toArray) by kernel_rfl)
  clear l hl hM hat hnl hap hk hN hm
  go_enter Tryd.func31, Tryd.ntmps31
  go_wp2_with fail
  go_loopw [12] (fun i wr => ∃ k : Nat, k ≤ m ∧ i = .int .i64 k ∧ (∀ x ∈ M.take k, GoodE x) ∧ Below w.heap.size w wr) (fun i _ => m - (intOf i).toNat)
  case atStart => exact ⟨0, Nat.zero_le _, rfl, (fun x hx => by cases hx), Below.refl _ _⟩
  case round =>
    obtain ⟨k, hk, rfl, hg, hb⟩ := hrel
    have HG := Lib.hid hg
    have HBW := Lib.hid hb
    have HATW := Lib.hid (HAT.out.below hb)
    have HLW := Lib.hid (HL.out.below hb)
    have HKW := Lib.hid (HK.out.below hb)
    clear hb hg
    by_cases hkm : k < m
    · obtain ⟨y, hy⟩ : ∃ y, M[k]? = some y := ⟨_, List.getElem?_eq_getElem (by rw [HM.out]; exact hkm)⟩
      have HYM := Lib.hid (List.mem_of_getElem? hy)
      have HY := Lib.hid (HMM.out y HYM.out)
      have HTK := Lib.hid (show M.take (k + 1) = M.take k ++ [y] by
        have h1 : M[k]'(by rw [HM.out]; exact hkm) = y := by
          rw [List.getElem?_eq_getElem (by rw [HM.out]; exact hkm)] at hy
          exact Option.some.inj hy
        rw [List.take_succ_eq_append_getElem (by rw [HM.out]; exact hkm), h1])
      obtain ⟨bb, ob, rfl, hbl, hr⟩ := HATW.out.getM hy
      have HR := Lib.hid hr
      have HSL := Lib.hid (sizeEL HY.out.1.ok)
      have HSV := Lib.hid (sizeEV HY.out.1.ok)
      have HGD := Lib.hid (fun w' => dev_good15 y HY.out.1 w')
      obtain ⟨g, hgd⟩ : ∃ g, decide (GoodE y) = g := ⟨_, rfl⟩
      have HGG := Shut.mk hgd
      rw [hgd] at HGD
      clear hy hbl hr hgd
      go_wp2_with (first
        | (refine wpList_load_mid rfl 35 _ rfl bb (ob + k * 73) rfl _ _ HR.out Tryd.underlying35 rfl HSL.out ?_)
        | (refine wpList_alloc_of rfl 35 rfl (entL noE) HZE.out ?_)
        | (refine wpList_store_cells rfl 35 _ _ rfl rfl wr.heap.size (entV noE) (entV y) 35 rfl rfl (heap_alloc_new wr _) HSV.out (by rw [entV_size HY.out.1.ok]; rfl) (entV_all y) ?_))
      intro w4 hc hb
      have hb4 : Below wr.heap.size wr w4 := But.toBelow ((Below.refl _ wr).alloc (Nat.le_refl _) _) hb.out (Nat.le_refl _) (by rw [World.size_alloc]; exact Nat.le_succ _)
      have HC4 := Lib.hid hc.out
      have HB4 := Lib.hid (HBW.out.trans (hb4.mono HBW.out.size))
      obtain ⟨g5, hg5⟩ : ∃ g, wr.heap.size = g := ⟨_, rfl⟩
      rw [hg5] at HC4 ⊢
      clear hc hb hb4 hg5 HR HSL
      go_wp2_with (refine wpList_load_cells rfl 35 _ rfl g5 (entV y) 35 _ rfl HC4.out Tryd.underlying35 rfl HSV.out ?_)
      refine (HGD.out w4).mono ?_
      rintro r w5 ⟨rfl, hb⟩
      have HB5 := Lib.hid (HB4.out.trans (hb.mono HB4.out.size))
      clear hb HB4 HC4
      cases g with
      | false =>
        have HA := Shut.mk (appE_one (h := h) (L := L) HYM.out (of_decide_eq_false HGG.out))
        go_wp2_with fail
        go_ret
        exact ⟨by rw [HA.out]; rfl, _, by rw [appL_no (by rw [HA.out]; decide)]; exact HL.out.below HB5.out, Turn.of HB5.out⟩
      | true =>
        go_wp2_with fail
        exact ⟨⟨k + 1, by omega, by go_num, fun x hx => by
          rw [HTK.out] at hx
          rcases List.mem_append.1 hx with hx | hx
          · exact HG.out x hx
          · obtain rfl := List.mem_singleton.1 hx
            exact of_decide_eq_true HGG.out, HB5.out⟩, by simp [intOf]; omega⟩
    · obtain rfl : k = m := by omega
      have HGA := Lib.hid (show ∀ x ∈ M, GoodE x from fun x hx => HG.out x (by rw [List.take_of_length_le (by rw [HM.out]; exact Nat.le_refl _)]; exact hx))
      have HLF := Lib.hid (fun w' (b : Below wr.heap.size wr w') => dev_left w' (HLW.out.below b) HLH.out)
      have HLE := Lib.hid (fun w' (b : Below wr.heap.size wr w') => dev_len w' (HLW.out.below b))
      obtain ⟨n, hnn⟩ : ∃ n, L.length = n := ⟨_, rfl⟩
      obtain ⟨P2, hP2⟩ : ∃ n, 2 ^ h = n := ⟨_, rfl⟩
      have HN := Shut.mk hnn
      have HP2 := Shut.mk hP2
      have HNP := Lib.hid (show n ≤ P2 by rw [← hnn, ← hP2]; exact HLH.out)
      rw [hnn, hP2] at HLF
      rw [hnn] at HLE
      clear hnn hP2 HG HZE
      go_wp2_with fail
      refine (HLF.out wr (Below.refl _ _)).mono ?_
      rintro r w6 ⟨rfl, hb6⟩
      have HB6 := Lib.hid hb6
      clear hb6 HLF
      by_cases hsp : P2 - n < k
      · have HA := Shut.mk (show appE h L M = 8 by rw [appE, if_pos HGA.out, if_neg (by rw [HN.out, HM.out, HP2.out]; have := HNP.out; omega)])
        have hsq : ((P2 - n : Nat) : Int) < (k : Int) := by omega
        go_wp2_with fail
        go_ret
        exact ⟨by rw [HA.out]; rfl, _, by rw [appL_no (by rw [HA.out]; decide)]; exact HL.out.below (HBW.out.trans (HB6.out.mono HBW.out.size)), Turn.of (HBW.out.trans (HB6.out.mono HBW.out.size))⟩
      have HA := Shut.mk (show appE h L M = 0 by rw [appE, if_pos HGA.out, if_pos (by rw [HN.out, HM.out, HP2.out]; have := HNP.out; omega)])
      have HAL := Shut.mk (appL_yes HA.out)
      have hsq : ¬ ((P2 - n : Nat) : Int) < (k : Int) := by omega
      have HSP := Lib.hid (show n + k ≤ P2 by have := HNP.out; omega)
      go_wp2_with fail
      refine (HLE.out w6 HB6.out).mono ?_
      rintro r w9 ⟨rfl, hb9⟩
      have HB9 := Lib.hid (HBW.out.trans ((HB6.out.trans (hb9.mono HB6.out.size)).mono HBW.out.size))
      clear hb9 HB6 HBW HLW HKW HATW HLE hsp
      obtain ⟨b, kv, vL, vH, hv, hO, la⟩ := HL.out.below HB9.out
      cases hv
      have HLA := Lib.hid la
      have HO := Shut.mk hO
      obtain ⟨gH, cH, rfl, -, hgl⟩ := la.ids.formB (by rw [allH_len]; exact Nat.succ_pos _)
      obtain ⟨n1, hn1⟩ : ∃ x, (allH L).length = x := ⟨_, rfl⟩
      have HN1 := Shut.mk hn1
      have HNN1 := Lib.hid (show n1 = n + 1 by rw [← hn1, allH_len, HN.out])
      rw [hn1] at HLA HO
      have HGL := Lib.hid hgl
      have HIDS := Lib.hid HLA.out.ids
      have HK9 := Lib.hid (HK.out.below HB9.out)
      have HATX := Lib.hid (HAT.out.below HB9.out)
      have h8 := two_le HLA.out.key.high
      rw [HP2.out] at h8
      have hnk : n ≤ 256 := by have := HNP.out; omega
      have hkk : k ≤ 256 := by omega
      have hn256 : n + k ≤ 256 := by have := HNP.out; omega
      have HBLT := Lib.hid HLA.out.cells.lt
      have HBGH := Lib.hid (show b ≠ gH from fun e => (HIDS.out.rows.row.notCells HLA.out.cells (by decide)) (by rw [e]; rfl))
      have HC3 := Lib.hid (fun (w' : World) (q : Only (fun x => x = gH) w9 w') => show w'.cell? ⟨b, 3, none⟩ = some (.slice (some ⟨gH, 0, none⟩) n1 cH) from (HLA.out.cells.only q HBGH.out).at 3)
      have HIX := Lib.hid (index_id16 gH n1 cH n (by rw [HNN1.out]; exact Nat.lt_succ_self n))
      have HFD := Lib.hid (fun w => field_logD3 b w)
      have HHS := Lib.hid (hashL_ok L n)
      have HRG := Lib.hid (fun (w' : World) (q : Below w9.heap.size w9 w') => show w'.rangeAt gH (n * 32) (nums .u8 (hashL L n)) from by
        have h1 := IAt.get ((HIDS.out.below q).at (allH_ok L)) (i := n) (by rw [HN1.out, HNN1.out]; exact Nat.lt_succ_self n)
        rw [allH_getD L (by rw [HN.out]; exact Nat.le_refl n), Nat.zero_add] at h1
        exact h1)
      have HSI := Lib.hid (show (Tryd.prog.info? 24).map (·.size) = some (hashL L n).length by rw [HHS.out.1]; exact Tryd.sizeI)
      have HAD := Lib.hid (show ∀ w, (binOp .add 3 (.int .i64 (n : Int)) (.int .i64 1)).run Tryd.prog w = .ok (.int .i64 ((n : Int) + 1)) w from fun w => by go_simp; rw [IntWalk.i64_left, IntWalk.wrap64_in _ (by omega)])
      have HWK := Lib.hid (fun (w' : World) (q : Below w9.heap.size w9 w') => dev_walk16 (hashL L n) ((n : Int) + 1) ao M c w' HHS.out (by omega) (by rw [HM.out]; omega) HMM.out (by rw [HM.out]; omega) (HATX.out.below q) (HK9.out.below q))
      rw [HM.out] at HWK
      have HEL := Shut.mk (show allH L ++ leadN (hashL L n) ((n : Int) + 1) M = allH (L ++ M) by rw [allH_app, HN.out, show 1 + (n : Int) = (n : Int) + 1 by omega])
      have HWL := Lib.hid (show (leadN (hashL L n) ((n : Int) + 1) M).length = k by rw [leadN_len, HM.out])
      have HWI := Lib.hid (show Ids (leadN (hashL L n) ((n : Int) + 1) M) from leadN_ok _ _ _)
      obtain ⟨W, hW⟩ : ∃ x, leadN (hashL L n) ((n : Int) + 1) M = x := ⟨_, rfl⟩
      rw [hW] at HWK HEL HWL HWI
      obtain ⟨hs, hhs⟩ : ∃ x, hashL L n = x := ⟨_, rfl⟩
      rw [hhs] at HRG HSI HWK
      clear hW hhs la hO hgl hn1 HL HAT HK hsq h8
      go_upto_region 12 with (fail)
      refine wp_region_free 19 (fun q V w' => Vals q V [(0, .pointer (some ⟨b, 0, none⟩)), (1, .pointer (some ⟨b, 0, none⟩)), (2, .pointer (some ⟨b, 0, none⟩)), (3, .pointer (some ⟨b, 3, none⟩)), (4, .slice (some ⟨gH, 0, none⟩) n1 cH), (5, .pointer (some ⟨b, 0, none⟩)), (6, .pointer (some ⟨b, 0, none⟩)), (7, .pointer (some ⟨b, 3, none⟩)), (8, .slice (some ⟨gH, 0, none⟩) n1 cH), (9, .int .i64 (n : Int)), (10, .pointer (some ⟨gH, n * 32, none⟩)), (12, .int .i64 (n : Int)), (13, .int .i64 ((n : Int) + 1)), (14, .slice ao k c), (17, .pointer (some ⟨b, 0, none⟩)), (18, .pointer (some ⟨b, 3, none⟩))] ∧ Only (fun x => x = gH) w9 w' ∧ Chain [11, 15, 16] (fun w' => Only (fun x => x = gH) w9 w') (AppM w9 gH hs W (allH (L ++ M))) q V w') (fun _ => undef) (by kernel_rfl) (by kernel_rfl) (by kernel_rfl) (by simp only [List.take_succ_cons, List.take_zero, putAll, Act.put, List.setIfInBounds_toArray, List.set_cons_zero, List.set_cons_succ]) ⟨Vals.none, Only.of (Below.refl _ _).drew, Chain.none (Only.of (Below.refl _ _).drew) (fun _ => (Below.refl _ _).drew)⟩ ?_ ?_
      · simp only [List.take_succ_cons, List.take_zero, putAll, Nat.zero_add, Nat.reduceAdd, Act.put, List.setIfInBounds_toArray, List.set_cons_zero, List.set_cons_succ]
        refine FreeSteps.cons ?_ (FreeSteps.cons ?_ (FreeSteps.cons ?_ (FreeSteps.cons ?_ (FreeSteps.cons ?_ (FreeSteps.cons ?_ (FreeSteps.cons ?_ (FreeSteps.cons ?_ (FreeSteps.cons ?_ (FreeSteps.cons ?_ (FreeSteps.cons ?_ (FreeSteps.cons ?_ (FreeSteps.cons ?_ (FreeSteps.cons ?_ (FreeSteps.cons ?_ (FreeSteps.cons ?_ (FreeSteps.cons ?_ (FreeSteps.cons ?_ (FreeSteps.cons ?_ (FreeSteps.nil)))))))))))))))))))
        all_goals (refine FreeStep.fresh rfl ?_; rintro q V wq hr hu ⟨hVs, hb, hch⟩ K hK)
        · exact op_move (.tmp 0) rfl _ rfl (hK _ _ ⟨hVs.set rfl, hb, hch.ne (by decide) (by decide)⟩)
        · exact op_move (.tmp 0) rfl _ rfl (hK _ _ ⟨hVs.set rfl, hb, hch.ne (by decide) (by decide)⟩)
        · exact op_nilCheck (.tmp 28) rfl ⟨b, 0, none⟩ (hVs.get 1 (hr { on := 1, ground := .data } (by simp) rfl) rfl) (hK _ _ ⟨hVs.set rfl, hb, hch.ne (by decide) (by decide)⟩)
        · exact op_fieldAt 102 (.tmp 29) 3 rfl _ _ (hVs.get 2 (hr { on := 2, ground := .data } (by simp) rfl) rfl) HFD.out (hK _ _ ⟨hVs.set rfl, hb, hch.ne (by decide) (by decide)⟩)
        · exact op_load_cell 29 (.tmp 30) rfl _ _ (hVs.get 3 (hr { on := 3, ground := .data } (by simp) rfl) rfl) (HC3.out wq hb) Tryd.isAgg29 (hK _ _ ⟨hVs.set rfl, hb, hch.ne (by decide) (by decide)⟩)
        · exact op_move (.tmp 0) rfl _ rfl (hK _ _ ⟨hVs.set rfl, hb, hch.ne (by decide) (by decide)⟩)
        · exact op_nilCheck (.tmp 32) rfl ⟨b, 0, none⟩ (hVs.get 5 (hr { on := 5, ground := .data } (by simp) rfl) rfl) (hK _ _ ⟨hVs.set rfl, hb, hch.ne (by decide) (by decide)⟩)
        · exact op_fieldAt 102 (.tmp 33) 3 rfl _ _ (hVs.get 6 (hr { on := 6, ground := .data } (by simp) rfl) rfl) HFD.out (hK _ _ ⟨hVs.set rfl, hb, hch.ne (by decide) (by decide)⟩)
        · exact op_load_cell 29 (.tmp 34) rfl _ _ (hVs.get 7 (hr { on := 7, ground := .data } (by simp) rfl) rfl) (HC3.out wq hb) Tryd.isAgg29 (hK _ _ ⟨hVs.set rfl, hb, hch.ne (by decide) (by decide)⟩)
        · exact op_move (.tmp 7) rfl _ rfl (hK _ _ ⟨hVs.set rfl, hb, hch.ne (by decide) (by decide)⟩)
        · exact op_indexAt 29 (.tmp 35) (.tmp 36) rfl _ (.int .i64 (n : Int)) _ (hVs.get 8 (hr { on := 8, ground := .data } (by simp) rfl) rfl) (hVs.get 9 (hr { on := 9, ground := .data } (by simp) rfl) rfl) HIX.out (hK _ _ ⟨hVs.set rfl, hb, hch.ne (by decide) (by decide)⟩)
        · have hm : Below w9.heap.size w9 wq := hch.at 0 (by decide) hu (.inl rfl)
          refine op_load_id 24 (.tmp 37) rfl gH (n * 32) hs _ (hVs.get 10 (hr { on := 10, ground := .data } (by simp) rfl) rfl) (HRG.out wq hm) Tryd.underlying24 rfl HSI.out ?_
          have hc1 := hch.step (v := .agg (nums .u8 hs).toArray) 0 (by decide) (by decide) hu (.inl rfl) hb ⟨rfl, hm⟩
          exact (hK _ _ ⟨hVs.off rfl, hb, hc1⟩)
        · exact op_move (.tmp 7) rfl _ rfl (hK _ _ ⟨hVs.set rfl, hb, hch.ne (by decide) (by decide)⟩)
        · exact op_bin .add 3 3 (.tmp 39) _ rfl _ _ _ (hVs.get 12 (hr { on := 12, ground := .data } (by simp) rfl) rfl) rfl (fun w => rfl) HAD.out (hK _ _ ⟨hVs.set rfl, hb, hch.ne (by decide) (by decide)⟩)
        · exact op_move (.tmp 1) rfl _ rfl (hK _ _ ⟨hVs.set rfl, hb, hch.ne (by decide) (by decide)⟩)
        · obtain ⟨hv1, hm⟩ : AppM w9 gH hs W (allH (L ++ M)) 1 (V 11) wq := hch.at 1 (by decide) hu (.inr (hr { on := 11, ground := .data } (by simp) rfl))
          refine op_call Tryd.func10 rfl rfl rfl [.agg (nums .u8 hs).toArray, .int .i64 ((n : Int) + 1), .slice ao k c] (cons_eq hv1 (cons_eq (hVs.get 13 (hr { on := 13, ground := .data } (by simp) rfl) rfl) (cons_eq (hVs.get 14 (hr { on := 14, ground := .data } (by simp) rfl) rfl) rfl))) (HWK.out wq hm) ?_
          rintro e w' ⟨⟨u, rfl, hrow⟩, hb'⟩
          have hbn : Below w9.heap.size w9 w' := hm.trans (hb'.mono hm.size)
          have hc2 := hch.step (v := u) 1 (by decide) (by decide) hu (.inr (hr { on := 11, ground := .data } (by simp) rfl)) (Only.of hbn) ⟨hrow.mono hm.size, hbn⟩
          exact ⟨_, rfl, (hK _ _ ⟨hVs.off rfl, Only.of hbn, hc2⟩)⟩
        · obtain ⟨hrow, hm⟩ : AppM w9 gH hs W (allH (L ++ M)) 2 (V 15) wq := hch.at 2 (by decide) hu (.inr (hr { on := 15, ground := .data } (by simp) rfl))
          refine op_push_ids rfl (.tmp 31) (.tmp 42) rfl 0 w9.heap.size (.slice (some ⟨gH, 0, none⟩) n1 cH) (V 15) (allH L) W HWI.out (hVs.get 4 (hr { on := 4, ground := .data } (by simp) rfl) rfl) (HIDS.out.below hm) rfl hrow (by rw [HN1.out, HNN1.out, HWL.out]; omega) (Nat.zero_le _) ?_
          intro v' w' ho' hg' hd'
          rw [HEL.out] at ho'
          have hbn : Only (fun x => x = gH) w9 w' := (Only.of (O := fun x => x = gH) hm).grown hg' (fun z hz => by cases hz; exact .inl rfl)
          have hc3 := hch.step (v := v') 2 (by decide) (by decide) hu (.inr (hr { on := 15, ground := .data } (by simp) rfl)) hbn ⟨ho', fun z hz => by
            rcases hd' with e | e
            · rw [hz] at e; cases e; exact .inl rfl
            · rw [hz] at e; cases e; exact .inr hm.size⟩
          exact (hK _ _ ⟨hVs.off rfl, hbn, hc3⟩)
        · exact op_nilCheck (.tmp 27) rfl ⟨b, 0, none⟩ (hVs.get 0 (hr { on := 0, ground := .data } (by simp) rfl) rfl) (hK _ _ ⟨hVs.set rfl, hb, hch.ne (by decide) (by decide)⟩)
        · exact op_fieldAt 102 (.tmp 44) 3 rfl _ _ (hVs.get 17 (hr { on := 17, ground := .data } (by simp) rfl) rfl) HFD.out (hK _ _ ⟨hVs.set rfl, hb, hch.ne (by decide) (by decide)⟩)
      rintro q V wq hall ⟨hVs, hb, hch⟩
      have v0 := hVs.get 0 (hall 0 (by decide)) rfl
      have v1 := hVs.get 1 (hall 1 (by decide)) rfl
      have v2 := hVs.get 2 (hall 2 (by decide)) rfl
      have v3 := hVs.get 3 (hall 3 (by decide)) rfl
      have v4 := hVs.get 4 (hall 4 (by decide)) rfl
      have v5 := hVs.get 5 (hall 5 (by decide)) rfl
      have v6 := hVs.get 6 (hall 6 (by decide)) rfl
      have v7 := hVs.get 7 (hall 7 (by decide)) rfl
      have v8 := hVs.get 8 (hall 8 (by decide)) rfl
      have v9 := hVs.get 9 (hall 9 (by decide)) rfl
      have v10 := hVs.get 10 (hall 10 (by decide)) rfl
      obtain ⟨u11, v11⟩ : ∃ v, V 11 = v := ⟨_, rfl⟩
      have v12 := hVs.get 12 (hall 12 (by decide)) rfl
      have v13 := hVs.get 13 (hall 13 (by decide)) rfl
      have v14 := hVs.get 14 (hall 14 (by decide)) rfl
      obtain ⟨u15, v15⟩ : ∃ v, V 15 = v := ⟨_, rfl⟩
      obtain ⟨u16, v16⟩ : ∃ v, V 16 = v := ⟨_, rfl⟩
      have v17 := hVs.get 17 (hall 17 (by decide)) rfl
      have v18 := hVs.get 18 (hall 18 (by decide)) rfl
      obtain ⟨hrow, hnew⟩ : AppM w9 gH hs W (allH (L ++ M)) 3 (V 16) wq := hch.fin (fun p hp => by match p, hp with | 0, _ => exact hall 11 (by decide) | 1, _ => exact hall 15 (by decide) | 2, _ => exact hall 16 (by decide))
      rw [v16] at hrow hnew
      simp only [List.take_succ_cons, List.take_zero, List.drop_succ_cons, List.drop_zero, putAll, Nat.zero_add, Nat.reduceAdd, v0, v1, v2, v3, v4, v5, v6, v7, v8, v9, v10, v11, v12, v13, v14, v15, v16, v17, v18, Act.put, List.setIfInBounds_toArray, List.set_cons_zero, List.set_cons_succ]
      clear hVs v0 v1 v2 v3 v4 v5 v6 v7 v8 v9 v10 v11 v12 v13 v14 v15 v16 v17 v18 hall
      obtain ⟨a4, c4, hu⟩ := hrow.form
      obtain ⟨n2, hn2⟩ : ∃ x, (allH (L ++ M)).length = x := ⟨_, rfl⟩
      rw [hn2] at hu
      subst hu
      have HROW := Lib.hid hrow
      have HNEW := Lib.hid hnew
      have HON := Lib.hid hb
      have hcs := HLA.out.cells.only hb HBGH.out
      have HCS := Lib.hid hcs
      have cf := HC3.out wq hb
      have ff := hcs.frozen 3
      clear hch hrow hb hnew hcs hn2 HC3 HIX HFD HRG HSI HAD HWK HEL
      go_upto_region 13 with (fail)
      obtain ⟨wx, hwx⟩ : ∃ x, x = wq.setCell ⟨b, 3, none⟩ (.slice (some ⟨gH, 0, none⟩) n1 cH) := ⟨_, rfl⟩
      clear hwx wx
      have hbelow : ∀ x, (x = gH ∨ x = b) → O x := fun x hx => by
        rw [HO.out]
        rcases hx with rfl | rfl
        · exact .inr (.inr rfl)
        · exact .inl rfl
      have hon10 : Only (fun x => x = gH ∨ x = b) w9 (wq.setCell ⟨b, 3, none⟩ (.slice a4 n2 c4)) := Only.setCell ⟨HON.out.os, HON.out.tape, HON.out.output, HON.out.size, fun k hk hn => HON.out.block k hk (fun e => hn (.inl e))⟩ 3 _ (.inl (.inr rfl))
      have hc10 := HCS.out.set 3 (.slice a4 n2 c4)
      have hr10 : OwnI 0 24 (.slice a4 n2 c4) (allH (L ++ M)) (wq.setCell ⟨b, 3, none⟩ (.slice a4 n2 c4)) := HROW.out.only16 (P := fun x => x = b) ((Only.refl _ wq).setCell 3 _ (.inl rfl)) (fun z hz e => HROW.out.rows.row.notCells HCS.out (by decide) (e ▸ hz))
      obtain ⟨w10, hw10⟩ : ∃ x, x = wq.setCell ⟨b, 3, none⟩ (.slice a4 n2 c4) := ⟨_, rfl⟩
      rw [← hw10] at hon10 hc10 hr10 ⊢
      clear hw10 cf ff
      have HR10 := Lib.hid hr10
      have HC10 := Lib.hid hc10
      have HON10 := Lib.hid hon10
      have hat10 : EntsAt ao M w10 := by
        rcases HATX.out with h0 | ⟨bb, oo, ha, hlt, hc⟩
        · exact .inl h0
        · by_cases hM0 : M = []
          · exact .inl (by rw [hM0]; rfl)
          · exact .inr ⟨bb, oo, ha, Nat.lt_of_lt_of_le hlt hon10.size, fun i c hc' j v hv => (World.cell?_of_block (w := w9) (a := ⟨bb, oo + i * 73 + j, none⟩) (hon10.block bb hlt (fun e => HAP.out hM0 _ ha (hbelow bb e)))).trans (hc i c hc' j v hv)⟩
      have HAT10 := Lib.hid hat10
      obtain ⟨aL, cL, rfl⟩ := HLA.out.ents.form
      have HPL := Lib.hid (show ∀ z, (Value.slice aL L.length cL).ownBlock = some z → z ≠ gH ∧ z ≠ b from fun z hz => ⟨fun e => rows_apart HLA.out.ents.1.row HIDS.out.rows.row (by decide) hz (by rw [e]; rfl), fun e => HLA.out.ents.1.row.notCells HLA.out.cells (by decide) (e ▸ hz)⟩)
      have HE10 := Lib.hid (HLA.out.ents.1.only hon10 (fun z hz e => by
        rcases e with e | e
        · exact (HPL.out z hz).1 e
        · exact (HPL.out z hz).2 e))
      have HEOK := Lib.hid HLA.out.ents.2
      have c2 : w10.cell? ⟨b, 2, none⟩ = some (.slice aL n cL) := by
        rw [← HN.out]
        exact hc10.at 2
      obtain ⟨bytes, hby, hinfo⟩ := Tryd.infoE73
      have HBY := Lib.hid hby
      have HIN := Lib.hid hinfo
      have HBGL := Lib.hid (show ∀ z, (Value.slice aL n cL).ownBlock = some z → z ≠ gH ∧ z ≠ b from fun z hz => HPL.out z (by rw [HN.out]; exact hz))
      have HE10n := Lib.hid (show OwnR 0 73 35 (.slice aL n cL) (L.map entL) w10 from by rw [← HN.out]; exact HE10.out)
      clear hby hinfo hon10 hc10 hr10 hat10
      go_wp2_with (refine wpList_append_rowsv rfl _ _ 23 35 rfl 0 73 bytes _ rfl (by decide) HBY.out Tryd.underlying23 HIN.out (.slice aL n cL) (L.map entL) (M.map entL) (wide_map fun x hx => entL_len (HMM.out x hx).1.ok) flat_one ao k c (by rw [List.length_map, HM.out]) rfl HE10n.out rfl HAT10.out HNL.out (by rw [List.length_map, List.length_map, HN.out, HM.out]; omega) (Nat.zero_le _) ?_)
      intro v11 w11 ho hg hd
      obtain ⟨a5, c5, hu5⟩ := ho.out.form
      obtain ⟨n5, hn5⟩ : ∃ x, (L.map entL ++ M.map entL).length = x := ⟨_, rfl⟩
      rw [hn5] at hu5
      subst hu5
      clear hn5
      have HO11 := Lib.hid ho.out
      have HG11 := Lib.hid hg.out
      have HD11 := Lib.hid hd.out
      have hc11 : Cells b 102 _ w11 := HC10.out.only ((Only.refl (fun x => (Value.slice aL n cL).ownBlock = some x) w10).grown hg.out (fun _ h => .inl h)) (fun e => (HBGL.out b e).2 rfl)
      have HC11 := Lib.hid hc11
      have cf : w11.cell? ⟨b, 2, none⟩ = some (.slice aL n cL) := by
        rw [← HN.out]
        exact hc11.at 2
      have ff := hc11.frozen 2
      clear ho hg hd hc11 c2
      go_wp2_with fail
      go_ret
      have hc12 := HC11.out.set 2 (.slice a5 n5 c5)
      have ho12 : OwnR 0 73 35 (.slice a5 n5 c5) (L.map entL ++ M.map entL) (w11.setCell ⟨b, 2, none⟩ (.slice a5 n5 c5)) := HO11.out.only (O := fun x => x = b) ((Only.refl _ w11).setCell 2 _ (.inl rfl)) (fun z hz e => HO11.out.row.notCells HC11.out (by decide) (e ▸ hz))
      have hon11 : Only (fun x => x = gH ∨ x = b ∨ (Value.slice aL n cL).ownBlock = some x) w9 w11 := Only.grown ⟨HON10.out.os, HON10.out.tape, HON10.out.output, HON10.out.size, fun k hk hn => HON10.out.block k hk (fun e => hn (e.elim .inl (fun e => .inr (.inl e))))⟩ HG11.out (fun z hz => .inl (.inr (.inr hz)))
      have hon12 : Only (fun x => x = gH ∨ x = b ∨ (Value.slice aL n cL).ownBlock = some x) w9 (w11.setCell ⟨b, 2, none⟩ (.slice a5 n5 c5)) := hon11.setCell 2 _ (.inl (.inr (.inl rfl)))
      have hPO : ∀ x, (x = gH ∨ x = b ∨ (Value.slice aL n cL).ownBlock = some x) → O x := fun x hx => by
        rw [HO.out]
        rcases hx with hx | hx | hx
        · exact .inr (.inr (by rw [hx]; rfl))
        · exact .inl hx
        · exact .inr (.inl (by rw [HN.out]; exact hx))
      have hON : ∀ x, O x → N ≤ x := fun x hx => HLA.out.late x (by rw [← HO.out]; exact hx)
      have hN9 : N ≤ w9.heap.size := Nat.le_of_lt (Nat.lt_of_le_of_lt (hON b (hPO b (.inr (.inl rfl)))) HBLT.out)
      have hid12 : OwnI 0 24 (.slice a4 n2 c4) (allH (L ++ M)) (w11.setCell ⟨b, 2, none⟩ (.slice a5 n5 c5)) := HR10.out.only16 (P := fun x => (Value.slice aL n cL).ownBlock = some x ∨ x = b) (((Only.refl _ w10).grown HG11.out (fun z hz => .inl (.inl hz))).setCell 2 _ (.inl (.inr rfl))) (fun z hz e => by
        rcases e with e | e
        · exact rows_apart HE10n.out.row HR10.out.rows.row (by decide) e hz
        · exact HR10.out.rows.row.notCells HC10.out (by decide) (e ▸ hz))
      have hown : ∀ x, logO b (.slice a5 n5 c5) (.slice a4 n2 c4) x → O x ∨ w9.heap.size ≤ x := fun x hx => by
        rcases hx with hx | hx | hx
        · exact .inl (hPO x (.inr (.inl hx)))
        · rcases HD11.out with e | e
          · exact .inl (hPO x (.inr (.inr (by rw [← e]; exact hx))))
          · rw [hx] at e
            cases e
            exact .inr HON10.out.size
        · rcases HNEW.out x hx with e | e
          · exact .inl (hPO x (.inl e))
          · exact .inr e
      obtain ⟨w0, h00, hk0, hb0⟩ := HLA.out.keys
      refine ⟨by rw [HA.out]; rfl, logO b (.slice a5 n5 c5) (.slice a4 n2 c4), ⟨b, kv, _, _, rfl, rfl, ?_⟩, ?_⟩
      · rw [HAL.out]
        refine ⟨hc12, ⟨by rw [List.map_append]; exact ho12, fun x hx => ?_⟩, hid12, ⟨w0, h00, hk0, Only.toBelow hb0 hon12 (fun x hx => Nat.le_trans h00 (hON x (hPO x hx))) hb0.size⟩, fun x hx => ?_, by rw [List.length_append, HN.out, HM.out, HP2.out]; exact HSP.out, HLA.out.node⟩
        · rcases List.mem_append.1 hx with hx | hx
          · exact HEOK.out x hx
          · exact (HMM.out x hx).1.ok
        · rcases hown x hx with e | e
          · exact hON x e
          · exact Nat.le_trans hN9 e
      · refine ⟨Only.trans (Only.of (O := O) HB9.out) (O' := O) ⟨hon12.os, hon12.tape, hon12.output, hon12.size, fun k hk hn => hon12.block k hk (fun e => hn (hPO k e))⟩ (fun _ h => .inl h), fun x hx => ?_⟩
        rcases hown x hx with e | e
        · exact .inl e
        · exact .inr (Nat.le_trans HB9.out.size e)
end Go.Proofs.YtpfhlhcnmeodbaaDoor
namespace Go.Proofs.YtpfhlhcnmeodbaaDoor
open Go.RowKit Go.BigFrame
theorem EntN.In.len16 {e : EntN} (h : e.In) : e.Len := ⟨h.ok, h.d.key, h.d.val, h.pay, h.sig⟩
theorem built_out16 : Tryd.prog.built 35 [(0, .int .i64 3), (5, .int .i64 1)] = some (entV (outE 1 [])) := by
  rw [ent_fill, fill_kind, fill_mask (ha := ⟨zeroI_ok, zeroI_ok⟩), fill_end]
  rfl
theorem wpList_build_wide_want {P : Program} {w : World} {ops : Array Oper} {rest : List Oper} {o : Oper} {a : Act} {Q : Exit → Act → World → Prop} (hw : Region.wanted o (yielded ops a.tmps) = true) (t e : TypeId) (x : Operand) (ho : o.op = .buildSlice t 1 #[(0, x)]) (us : List Value) (hx : a.eval x = .agg us.toArray)
    (hr : ∀ w, (Instr.buildSlice t 1 #[(0, .agg us.toArray)]).run P w = .ok (.slice (some ⟨w.heap.size, 0, none⟩) 1 1) (w.alloc (.cells us.toArray e)))
    (h : ∀ w', Hid (Cells w.heap.size e us.toArray w') → Hid (Below w.heap.size w w') → wpList P ops Q rest (a.put o.dst (.slice (some ⟨w.heap.size, 0, none⟩) 1 1)) w') : wpList P ops Q (o :: rest) a w :=
  BigFrame.wpList_want hw fun _ hK => (show OpWp P { o with guard := none } a w _ _ from op_build_wide (o := { o with guard := none }) t e x ho us hx hr (hK _ _ (h _ (Lib.hid (heap_alloc_new w _)) (Lib.hid ((Below.refl _ _).alloc (Nat.le_refl _) _))))).out
theorem alive16_app : appE 1 [] [outE 1 []] = 0 := by
  rw [appE, if_pos, if_pos (by decide)]
  intro x hx
  obtain rfl := List.mem_singleton.1 hx
  exact .inr (.inr ⟨rfl, ⟨by decide, by decide, by decide⟩, rfl, rfl, rfl, rfl, rfl⟩)
set_option maxHeartbeats 4000000 in
set_option maxRecDepth 100000 in
theorem alive16_any (w : World) (hk : KAt w) : Calls Tryd.prog 8 #[] w fun e w' => e = .returned (.bool true) ∧ Below w.heap.size w w' := by
  have HK := Lib.hid hk
  have HG := Lib.hid hk.lt
  clear hk
  have HZ := Lib.hid (show (Tryd.prog.info? 26).bind (·.zero) = some (.agg (autL noA).toArray) by kernel_rfl)
  have HS := Lib.hid (sizeAV (a := noA) zeroI_ok)
  go_enter Tryd.func8, Tryd.ntmps8
  go_wp2_with fail
  refine (dev_new [115, 101, 101, 100] 1 w (by decide) (by decide) (by decide) HK.out).mono ?_
  rintro e w1 ⟨⟨kv, rfl, hv⟩, hb1⟩
  obtain ⟨ka, rfl⟩ := hv.ptr
  have HV := Lib.hid hv
  have HB1 := Lib.hid hb1
  have HK1 := Lib.hid (HK.out.below hb1)
  clear hv hb1
  go_wp2_with fail
  refine (dev_newLog 0 _ [115, 101, 101, 100] 1 w1 HV.out (by decide) (by decide)).mono ?_
  rintro e w2 ⟨⟨v, O, rfl, hl, hO⟩, hb2⟩
  obtain ⟨a, rfl⟩ := hl.ptr
  have HL2 := Lib.hid hl
  have HB2 := Lib.hid (HB1.out.trans (hb2.mono HB1.out.size))
  have HW1 := Lib.hid HB1.out.size
  clear hl hO hb2 HV HB1
  go_wp2_with fail
  refine (dev_authNone 1 w2 HL2.out (.inr (by decide))).mono ?_
  rintro e w3 ⟨rfl, hb3⟩
  have HL3 := Lib.hid (HL2.out.below hb3)
  have HB3 := Lib.hid (HB2.out.trans (hb3.mono HB2.out.size))
  clear hb3 HL2 HB2
  go_wp2_with (first
    | (refine wpList_alloc_of rfl 26 rfl (autL noA) HZ.out ?_)
    | (refine wpList_store_cells rfl 26 _ _ rfl rfl w3.heap.size (autV noA) (autV noA) 26 rfl rfl (heap_alloc_new w3 _) HS.out rfl (autV_all noA) ?_))
  intro w4 hc4 hb4
  have hb44 : Below w3.heap.size w3 w4 := But.toBelow ((Below.refl _ w3).alloc (Nat.le_refl _) _) hb4.out (Nat.le_refl _) (by rw [World.size_alloc]; exact Nat.le_succ _)
  have HL4 := Lib.hid (HL3.out.below hb44)
  have HB4 := Lib.hid (HB3.out.trans (hb44.mono HB3.out.size))
  clear hc4 hb4 hb44 HL3 HB3
  go_wp2_with fail
  refine (dev_left w4 HL4.out (by decide)).mono ?_
  rintro e w5 ⟨rfl, hb5⟩
  rw [show (((2 ^ 1 - ([] : List EntN).length : Nat)) : Int) = 2 from rfl]
  have HL5 := Lib.hid (HL4.out.below hb5)
  have HB5 := Lib.hid (HB4.out.trans (hb5.mono HB4.out.size))
  clear hb5 HL4 HB4
  have HBE := Lib.hid (fun w' => built_ent1 (outE 1 []) (outE_ok 1 []) w')
  go_wp2_with (first
    | (refine wpList_build_want (by rfl) 35 _ rfl [(0, .int .i64 3), (5, .int .i64 1)] _ (by rw [List.map_toArray]; rfl) built_out16 ?_)
    | (refine wpList_build_wide_want (by rfl) 23 35 _ rfl (entL (outE 1 [])) rfl HBE.out ?_))
  intro w6 hc6 hb6
  have HL6 := Lib.hid (HL5.out.below hb6.out)
  have HB6 := Lib.hid (HB5.out.trans (hb6.out.mono HB5.out.size))
  have HC6 := Lib.hid hc6.out
  have HK6 := Lib.hid (HK.out.below HB6.out)
  have HAP := Lib.hid (dev_append (some ⟨w5.heap.size, 0, none⟩) [outE 1 []] 1 w6 HL6.out (by decide) (fun x hx => by cases hx) (fun x hx => by
    obtain rfl := List.mem_singleton.1 hx
    exact ⟨⟨outE_ok 1 [], by decide, by decide, by decide, by decide⟩, by decide⟩) (by decide) (.inr ⟨w5.heap.size, 0, rfl, HC6.out.lt, fun i c hc => by
      have hi : i = 0 := by
        have := (List.getElem?_eq_some_iff.1 hc).1
        simpa using this
      subst hi
      obtain rfl : entL (outE 1 []) = c := by simpa using hc
      simpa using cells_range HC6.out⟩) (fun h => by cases h) (fun _ a ha => by
        cases ha
        intro hO
        exact Nat.lt_irrefl _ (HL5.out.lt _ hO)) HK6.out (Nat.lt_of_lt_of_le HG.out HW1.out))
  rw [show appL 1 [] [outE 1 []] = [outE 1 []] by rw [appL, if_pos alive16_app]; rfl, alive16_app] at HAP
  have HLATE := Lib.hid (fun x hx => Nat.le_trans HW1.out (HL6.out.late x hx))
  clear hc6 hb6 HL5 HB5 HBE
  go_wp2_with fail
  refine HAP.out.mono ?_
  rintro e w7 ⟨rfl, O', hl7, ht7⟩
  have HL7 := Lib.hid hl7
  have HB7 := Lib.hid (Only.toBelow HB6.out ht7.only HLATE.out HB6.out.size)
  clear hl7 ht7 HAP HL6 HB6 HLATE
  go_wp2_with fail
  refine (dev_len w7 HL7.out).mono ?_
  rintro e w8 ⟨rfl, hb8⟩
  rw [show (([outE 1 []] : List EntN).length : Int) = 1 from rfl]
  have HB8 := Lib.hid (HB7.out.trans (hb8.mono HB7.out.size))
  clear hb8 HL7 HB7
  go_wp2_with fail
  go_ret
  exact ⟨rfl, HB8.out⟩
def SmallE (L : List EntN) : Prop := L.length ≤ 12 ∧ ∀ e ∈ L, e.pay.length + e.sig.length + (e.d.key.length + e.d.val.length) ≤ 4096
set_option maxHeartbeats 4000000 in
set_option maxRecDepth 100000 in
theorem great16_any (ao : Option Addr) (L : List EntN) (c : Nat) (w : World) (hL : ∀ x ∈ L, x.Len) (hn : L.length ≤ 140737488351232) (hat : EntsAt ao L w) :
    Calls Tryd.prog 9 #[.slice ao L.length c] w fun e w' => (∃ z, e = .returned (.bool z) ∧ (z = false → SmallE L)) ∧ Below w.heap.size w w' := by
  have HP := Lib.hid hat
  have HLL := Lib.hid hL
  obtain ⟨n, hnn⟩ : ∃ n, L.length = n := ⟨_, rfl⟩
  have HN := Shut.mk hnn
  rw [hnn] at hn ⊢
  have HZE := Lib.hid (show (Tryd.prog.info? 35).bind (·.zero) = some (.agg (entL noE).toArray) by kernel_rfl)
  clear hat hL hnn
  go_enter Tryd.func9, Tryd.ntmps9
  go_wp2_with fail
  go_loopw [3, 8] (fun s j wr => ∃ k m : Nat, k ≤ n ∧ j = .int .i64 k ∧ s = .int .i64 m ∧ m ≤ 4096 ∧ (∀ e ∈ L.take k, e.pay.length + e.sig.length + (e.d.key.length + e.d.val.length) ≤ 4096) ∧ Below w.heap.size w wr) (fun _ j _ => n - (intOf j).toNat)
  case atStart => exact ⟨0, 0, Nat.zero_le _, rfl, rfl, by decide, by simp, Below.refl _ _⟩
  case round =>
    obtain ⟨k, m, hk, rfl, rfl, hm, hall, hb⟩ := hrel
    have HA := Lib.hid hall
    have HBW := Lib.hid hb
    have HPW := Lib.hid (HP.out.below hb)
    clear hb hall
    by_cases hkn : k < n
    · obtain ⟨y, hy⟩ : ∃ y, L[k]? = some y := ⟨_, List.getElem?_eq_getElem (by rw [HN.out]; exact hkn)⟩
      have HTK := Shut.mk (show L.take (k + 1) = L.take k ++ [y] by
        have h1 : L[k]'(by rw [HN.out]; exact hkn) = y := by
          rw [List.getElem?_eq_getElem (by rw [HN.out]; exact hkn)] at hy
          exact Option.some.inj hy
        rw [List.take_succ_eq_append_getElem (by rw [HN.out]; exact hkn), h1])
      have HY := Lib.hid (HLL.out y (List.mem_of_getElem? hy))
      obtain ⟨b, ob, rfl, hbl, hr⟩ := HPW.out.getM hy
      have HR := Lib.hid hr
      have HSL := Lib.hid (sizeEL HY.out.ok)
      have HSV := Lib.hid (sizeEV HY.out.ok)
      clear hy hbl hr
      go_wp2_with (first
        | (refine wpList_load_mid rfl 35 _ rfl b (ob + k * 73) rfl _ _ HR.out Tryd.underlying35 rfl HSL.out ?_)
        | (refine wpList_alloc_of rfl 35 rfl (entL noE) HZE.out ?_)
        | (refine wpList_store_cells rfl 35 _ _ rfl rfl wr.heap.size (entV noE) (entV y) 35 rfl rfl (heap_alloc_new wr _) HSV.out (by rw [entV_size HY.out.ok]; rfl) (entV_all y) ?_))
      intro w4 hc hb
      have hb4 : Below wr.heap.size wr w4 := But.toBelow ((Below.refl _ wr).alloc (Nat.le_refl _) _) hb.out (Nat.le_refl _) (by rw [World.size_alloc]; exact Nat.le_succ _)
      have HB4 := Lib.hid (HBW.out.trans (hb4.mono HBW.out.size))
      obtain ⟨_, cd, _, _, _, _, c71, c72⟩ := ent_cells HY.out.ok hc.out
      obtain ⟨_, c2, c3, _⟩ := draft_mid cd
      have h1 := HY.out.pay
      have h2 := HY.out.sig
      have h3 := HY.out.key
      have h4 := HY.out.val
      obtain ⟨g5, hg5⟩ : ∃ g, wr.heap.size = g := ⟨_, rfl⟩
      rw [hg5] at c71 c72 c2 c3 ⊢
      obtain ⟨yl, hyl⟩ : ∃ n, y.pay.length = n := ⟨_, rfl⟩
      obtain ⟨sl, hsl⟩ : ∃ n, y.sig.length = n := ⟨_, rfl⟩
      obtain ⟨kl, hkl⟩ : ∃ n, y.d.key.length = n := ⟨_, rfl⟩
      obtain ⟨vl, hvl⟩ : ∃ n, y.d.val.length = n := ⟨_, rfl⟩
      have HYS := Shut.mk (show y.pay.length + y.sig.length + (y.d.key.length + y.d.val.length) = yl + sl + (kl + vl) by rw [hyl, hsl, hkl, hvl])
      rw [hyl] at h1
      rw [hsl] at h2
      rw [hkl] at h3
      rw [hvl] at h4
      clear hc hb hb4 hg5 HBW HPW HR HSL cd
      by_cases hbig : 4096 < m + (yl + sl + kl + vl)
      · have hbi : decide ((4096 : Int) < (m : Int) + ((yl : Int) + sl + kl + vl)) = true := decide_eq_true (by omega)
        go_wp2_with fail
        go_ret
        exact ⟨⟨true, rfl, fun h => by cases h⟩, HB4.out⟩
      · have hbi : decide ((4096 : Int) < (m : Int) + ((yl : Int) + sl + kl + vl)) = false := decide_eq_false (by omega)
        go_wp2_with fail
        refine ⟨⟨k + 1, m + (yl + sl + kl + vl), by omega, by go_num, by go_num, by omega, ?_, HB4.out⟩, by simp [intOf]; omega⟩
        rw [HTK.out]
        intro e he
        rcases List.mem_append.1 he with he | he
        · exact HA.out e he
        · obtain rfl := List.mem_singleton.1 he
          rw [HYS.out]
          omega
    · obtain rfl : k = n := by omega
      have HT := Lib.hid (show ∀ e ∈ L, e.pay.length + e.sig.length + (e.d.key.length + e.d.val.length) ≤ 4096 from fun e he => HA.out e (by rw [List.take_of_length_le (by rw [HN.out]; exact Nat.le_refl _)]; exact he))
      by_cases h12 : 12 < k
      · have h12i : decide ((12 : Int) < (k : Int)) = true := decide_eq_true (by omega)
        go_wp2_with fail
        go_ret
        exact ⟨⟨true, rfl, fun h => by cases h⟩, HBW.out⟩
      · have h12i : decide ((12 : Int) < (k : Int)) = false := decide_eq_false (by omega)
        go_wp2_with fail
        go_ret
        exact ⟨⟨false, rfl, fun _ => ⟨by rw [HN.out]; omega, HT.out⟩⟩, HBW.out⟩
end Go.Proofs.YtpfhlhcnmeodbaaDoor
namespace Go.Proofs.YtpfhlhcnmeodbaaDoor
open Go.RowKit Go.BigFrame
set_option maxHeartbeats 2000000 in
set_option maxRecDepth 100000 in
theorem ref_goodDraft (d : DraftN) (hr : IdOk d.ref) (hk : d.key.length ≤ 140737488351232) (hv : d.val.length ≤ 140737488351232) (w : World) :
    Calls Tryd.prog 48 #[.agg (draftV d)] w fun e w' => e = .returned (.bool (decide (GoodD d))) ∧ Below w.heap.size w w' := by
  have hx : Cells w.heap.size 33 (draftV d) (w.alloc (.cells (draftV d) 33)) := heap_alloc_new w _
  have hb : Below w.heap.size w (w.alloc (.cells (draftV d) 33)) := (Below.refl _ _).alloc (Nat.le_refl _) _
  obtain ⟨c0, c1, c2, c3⟩ := draft_cells hx
  have HC3 := Lib.hid c3
  have HB := Lib.hid hb
  have heq := fun w' => equal_idI d.ref zeroI hr.1 zeroI_ok.1 hr.2 zeroI_ok.2 w'
  have HI := Lib.hid (show (Tryd.prog.info? 24).map (·.size) = some d.ref.length by rw [hr.1]; exact Tryd.sizeI)
  obtain ⟨k, hkd⟩ : ∃ k, d.kind = k := ⟨_, rfl⟩
  obtain ⟨kl, hkl⟩ : ∃ n, d.key.length = n := ⟨_, rfl⟩
  obtain ⟨vl, hvl⟩ : ∃ n, d.val.length = n := ⟨_, rfl⟩
  have HG := Shut.mk (show GoodD d ↔ 1 ≤ k ∧ k ≤ 5 ∧ 1 ≤ kl ∧ kl ≤ 16 ∧ vl ≤ 64 ∧ (k ≤ 3 → d.ref = zeroI) ∧ (k = 5 → d.ref ≠ zeroI ∧ d.val = []) by rw [← hkd, ← hkl, ← hvl]; rfl)
  rw [hkd] at c0
  clear hx hb c3
  by_cases h1 : k < 1
  · have hgd : decide (GoodD d) = false := decide_eq_false (fun h => by have := HG.out.1 h; omega)
    rw [hgd]
    go_enter Tryd.func48, Tryd.ntmps48
    go_wp2_with fail
    go_ret
    exact ⟨rfl, HB.out⟩
  by_cases h2 : 5 < k
  · have hgd : decide (GoodD d) = false := decide_eq_false (fun h => by have := HG.out.1 h; omega)
    rw [hgd]
    go_enter Tryd.func48, Tryd.ntmps48
    go_wp2_with fail
    go_ret
    exact ⟨rfl, HB.out⟩
  by_cases h3 : kl < 1
  · have hgd : decide (GoodD d) = false := decide_eq_false (fun h => by have := HG.out.1 h; omega)
    rw [hgd]
    go_enter Tryd.func48, Tryd.ntmps48
    go_wp2_with fail
    go_ret
    exact ⟨rfl, HB.out⟩
  by_cases h4 : 16 < kl
  · have hgd : decide (GoodD d) = false := decide_eq_false (fun h => by have := HG.out.1 h; omega)
    rw [hgd]
    go_enter Tryd.func48, Tryd.ntmps48
    go_wp2_with fail
    go_ret
    exact ⟨rfl, HB.out⟩
  by_cases h5 : 64 < vl
  · have hgd : decide (GoodD d) = false := decide_eq_false (fun h => by have := HG.out.1 h; omega)
    rw [hgd]
    go_enter Tryd.func48, Tryd.ntmps48
    go_wp2_with fail
    go_ret
    exact ⟨rfl, HB.out⟩
  obtain ⟨z, hz2⟩ : ∃ z, (d.ref == zeroI) = z := ⟨_, rfl⟩
  have HZ := Shut.mk hz2
  rw [hz2, zeroI_lit] at heq
  clear hz2
  have hzp : (z = true ↔ d.ref = zeroI) := by rw [← HZ.out]; simp
  by_cases h6 : k ≤ 3
  · have hgd : decide (GoodD d) = z := by
      cases z with
      | true => exact decide_eq_true (HG.out.2 ⟨by omega, by omega, by omega, by omega, by omega, fun _ => hzp.1 rfl, fun h => by omega⟩)
      | false => exact decide_eq_false (fun h => by have := hzp.2 ((HG.out.1 h).2.2.2.2.2.1 h6); cases this)
    rw [hgd]
    clear hgd hzp
    go_enter Tryd.func48, Tryd.ntmps48
    go_wp2_with (refine wpList_load_id rfl 24 _ rfl w.heap.size 3 d.ref _ rfl HC3.out Tryd.underlying24 rfl HI.out ?_)
    go_ret
    exact ⟨rfl, HB.out⟩
  by_cases h7 : k = 4
  · have hgd : decide (GoodD d) = true := decide_eq_true (HG.out.2 ⟨by omega, by omega, by omega, by omega, by omega, fun h => by omega, fun h => by omega⟩)
    rw [hgd]
    clear hgd hzp
    have h8 : (k == 4) = true := by simp [h7]
    go_enter Tryd.func48, Tryd.ntmps48
    go_wp2_with (refine wpList_load_id rfl 24 _ rfl w.heap.size 3 d.ref _ rfl HC3.out Tryd.underlying24 rfl HI.out ?_)
    go_ret
    exact ⟨rfl, HB.out⟩
  have h8 : (k == 4) = false := by simp [h7]
  have hgd : decide (GoodD d) = (!z && d.val == []) := by
    rw [val_nil_beq]
    cases z with
    | true => exact decide_eq_false (fun h => ((HG.out.1 h).2.2.2.2.2.2 (by omega)).1 (hzp.1 rfl))
    | false =>
      by_cases hv0 : d.val = []
      · rw [decide_eq_true hv0]
        exact decide_eq_true (HG.out.2 ⟨by omega, by omega, by omega, by omega, by omega, fun h => by omega, fun _ => ⟨fun e => (by have := hzp.2 e; cases this), hv0⟩⟩)
      · rw [decide_eq_false hv0]
        exact decide_eq_false (fun h => hv0 ((HG.out.1 h).2.2.2.2.2.2 (by omega)).2)
  rw [hgd]
  clear hgd hzp
  cases z with
  | true =>
    go_enter Tryd.func48, Tryd.ntmps48
    go_wp2_with (refine wpList_load_id rfl 24 _ rfl w.heap.size 3 d.ref _ rfl HC3.out Tryd.underlying24 rfl HI.out ?_)
    go_ret
    exact ⟨rfl, HB.out⟩
  | false =>
    go_enter Tryd.func48, Tryd.ntmps48
    go_wp2_with (refine wpList_load_id rfl 24 _ rfl w.heap.size 3 d.ref _ rfl HC3.out Tryd.underlying24 rfl HI.out ?_)
    go_ret
    exact ⟨rfl, HB.out⟩
end Go.Proofs.YtpfhlhcnmeodbaaDoor
namespace Go.Proofs.YtpfhlhcnmeodbaaDoor
open Go.RowKit Go.BigFrame
theorem strsP_uni (L : List (List UInt8)) : ∀ u ∈ strs L, u.oneCell' = true := fun u hu => by
  obtain ⟨s, _, rfl⟩ := List.mem_map.1 hu
  rfl
theorem Tryd.infoStrP : (Tryd.prog.info? 9).map (fun i => (i.zero, i.size, i.bytes)) = some (some (.string ⟨#[]⟩), 1, 16) := by kernel_rfl
theorem strsP_src {ad : Addr} {L : List (List UInt8)} {w : World} (h : StrsAt (some ad) L w) : ∀ j u, (strs L)[j]? = some u → w.cell? (ad.add j) = some u := by
  intro j u hj
  rcases h with rfl | ⟨b, o, h1, h2, h3⟩
  · cases hj
  · cases h1
    have hlt := (List.getElem?_eq_some_iff.1 hj).1
    rw [strs_length] at hlt
    rw [Addr.add_lit, h3 j hlt, ← hj, strs, List.getElem?_map, List.getElem?_eq_getElem hlt]
    rfl
section
variable {w : World} {ops : Array Oper} {rest : List Oper} {o : Oper} {a : Act} {Q : Exit → Act → World → Prop}
theorem wpList_push_strs (hgd : o.guard = none) (s x : Operand) (ho : o.op = .call { callee := .builtin .append, args := #[s, x], argTypes := #[78, 78] })
    (B : Nat) (v : Value) (L M : List (List UInt8)) (ao : Option Addr) (n c : Nat) (hn : n = M.length) (hs : a.eval s = v) (hown : OwnS B v L w) (hx : a.eval x = .slice ao n c) (hsrc : StrsAt ao M w) (hnil : ao = none → c = 0)
    (h63 : L.length + M.length ≤ 1000000) (hB : B ≤ w.heap.size)
    (h : ∀ v' w', Hid (OwnS B v' (L ++ M) w') → Hid (Below B w w') → Hid (w.grownBy w' v.ownBlock) → wpList Tryd.prog ops Q rest (a.put o.dst v') w') : wpList Tryd.prog ops Q (o :: rest) a w := by
  obtain ⟨i, hi, hz0, hz1, hz2⟩ := info_parts Tryd.infoStrP
  have hap : strs (L ++ M) = strs L ++ strs M := by simp [strs]
  cases ao with
  | none =>
    obtain rfl := hnil rfl
    have hm : M = [] := by
      rcases hsrc with h | ⟨b, o', h, _⟩
      · exact h
      · cases h
    subst hm
    subst hn
    refine wpList_append_own_none hgd s x _ ho B 9 i 1 Tryd.underlying78 hi v L.length (strs L) hs hown hx (h _ _ (Lib.hid ?_) (Lib.hid (Below.refl _ _)) (Lib.hid ⟨rfl, rfl, rfl, Nat.le_refl _, fun _ _ _ => rfl⟩))
    rw [List.append_nil]
    exact hown
  | some ad =>
    subst hn
    refine wpList_append_own_at w hgd s x _ ho B 9 i _ 1 16 Tryd.underlying78 hi hz0 hz1 hz2 rfl (by decide) v L.length (strs L) hs hown ad M.length c (strs M) hx (by rw [strs_length, Nat.mul_one]) (strsP_src hsrc) (strsP_uni M) (by unfold maxLen; omega) (by omega) hB ?_
    intro v' w' h2 hg _ h3
    refine h v' w' (Lib.hid ?_) (Lib.hid ((Below.refl B w).grown hg hB (fun k hk => (World.ownsRow.lt hown k hk).1))) (Lib.hid hg)
    show w'.ownsRow B _ 1 v' (L ++ M).length (strs (L ++ M))
    rw [List.length_append, hap]
    exact h2
end
theorem strs_lit (w : World) (L : List (List UInt8)) (t : TypeId) : StrsAt (some ⟨w.heap.size, 0, none⟩) L (w.alloc (.cells (strs L).toArray t)) := by
  refine .inr ⟨w.heap.size, 0, rfl, by rw [World.size_alloc]; exact Nat.lt_succ_self _, fun i hi => ?_⟩
  rw [Lib.cell_of_heap (heap_alloc_new w _), List.getElem?_toArray, Nat.zero_add, strs, List.getElem?_map, List.getElem?_eq_getElem hi]
  rfl
def NewS (s : Nat → Bool) (V : Nat → Value) (i n : Nat) (L : List (List UInt8)) (w : World) : Prop := s i = true → ∃ g, V i = .slice (some ⟨g, 0, none⟩) n n ∧ StrsAt (some ⟨g, 0, none⟩) L w
theorem NewS.none {V : Nat → Value} {i n : Nat} {L : List (List UInt8)} {w : World} : NewS (fun _ => false) V i n L w := fun h => by cases h
theorem NewS.ne {s : Nat → Bool} {V : Nat → Value} {i j n : Nat} {L : List (List UInt8)} {w w' : World} {u : Value} (h : NewS s V j n L w) (hne : j ≠ i) (hb : Below w.heap.size w w') : NewS (fun j => s j || j == i) (upd V i u) j n L w' := fun hs => by
  obtain ⟨g, e, hk⟩ := h (seen_ne hne hs)
  exact ⟨g, by rw [upd_ne V u hne]; exact e, hk.below hb⟩
theorem NewS.same {s : Nat → Bool} {V : Nat → Value} {i n : Nat} {L : List (List UInt8)} {w : World} {t : TypeId} : NewS (fun j => s j || j == i) (upd V i (.slice (some ⟨w.heap.size, 0, Option.none⟩) n n)) i n L (w.alloc (.cells (strs L).toArray t)) :=
  fun _ => ⟨w.heap.size, upd_same _ _ _, strs_lit w L t⟩
theorem op_build_strs {P : Program} {o : Oper} {a : Act} {w : World} {K : Act → World → Prop} {Q : Exit → Act → World → Prop} (t e : TypeId) (n : Nat) (xs : Array (Nat × Operand)) (ho : o.op = .buildSlice t n xs) (vs : List (Nat × Value)) (L : List (List UInt8)) (hv : (xs.map fun (i, x) => (i, a.eval x)) = vs.toArray)
    (hr : ∀ w, (Instr.buildSlice t n vs.toArray).run P w = .ok (.slice (some ⟨w.heap.size, 0, none⟩) n n) (w.alloc (.cells (strs L).toArray e)))
    (h : K (a.put o.dst (.slice (some ⟨w.heap.size, 0, none⟩) n n)) (w.alloc (.cells (strs L).toArray e))) : OpWp P o a w K Q := by
  refine ⟨?_⟩
  unfold Oper.wp execOp
  simp only [ho, hv, Sem.run_bind, Sem.run_pure, hr, Result.andThen_ok]
  exact h
theorem built_strs2 (a b : List UInt8) (w : World) : (Instr.buildSlice 78 2 [(0, Value.string ⟨a.toArray⟩), (1, .string ⟨b.toArray⟩)].toArray).run Tryd.prog w = .ok (.slice (some ⟨w.heap.size, 0, none⟩) 2 2) (w.alloc (.cells (strs [a, b]).toArray 9)) := by kernel_rfl
theorem built_strs3 (a b c : List UInt8) (w : World) : (Instr.buildSlice 78 3 [(0, Value.string ⟨a.toArray⟩), (1, .string ⟨b.toArray⟩), (2, .string ⟨c.toArray⟩)].toArray).run Tryd.prog w = .ok (.slice (some ⟨w.heap.size, 0, none⟩) 3 3) (w.alloc (.cells (strs [a, b, c]).toArray 9)) := by kernel_rfl
end Go.Proofs.YtpfhlhcnmeodbaaDoor
namespace Go.Proofs.YtpfhlhcnmeodbaaDoor
open Go.RowKit Go.BigFrame
theorem quiet_indexAt {P : Program} {o : Oper} {a : Act} {C : World → Prop} {K : Act → Prop} (ty : TypeId) (x y : Operand) (ho : o.op = .indexAddr ty x y) (vx vy : Value) (q : Addr) (hx : a.eval x = vx) (hy : a.eval y = vy) (hr : ∀ w, (Instr.indexAt ty vx vy).run P w = .ok (.pointer (some q)) w) (hk : K (a.put o.dst (.pointer (some q)))) : o.quiet P a C K := by
  refine ⟨_, fun w _ => ?_, hk⟩
  unfold Oper.quietAt execOp
  simp only [ho, hx, hy, Sem.run_bind, hr w, Result.andThen_ok, Sem.run_pure]
  exact ⟨rfl, rfl⟩
end Go.Proofs.YtpfhlhcnmeodbaaDoor
namespace Go.Proofs.YtpfhlhcnmeodbaaDoor
open Go.RowKit Go.BigFrame
theorem nil_beq_dec (v : List UInt8) : (v == []) = decide (v = []) := by cases v <;> simp
theorem noD_iff (d : DraftN) : d = noD ↔ d.kind = 0 ∧ d.key = [] ∧ d.val = [] ∧ d.ref = zeroI := by
  obtain ⟨a, b, c, r⟩ := d
  simp [noD]
set_option maxHeartbeats 4000000 in
set_option maxRecDepth 100000 in
theorem ref_good15 (e : EntN) (he : e.Len) (w : World) :
    Calls Tryd.prog 22 #[.agg (entV e)] w fun r w' => r = .returned (.bool (decide (GoodE e))) ∧ Below w.heap.size w w' := by
  have hx : Cells w.heap.size 35 (entV e) (w.alloc (.cells (entV e) 35)) := heap_alloc_new w _
  have hb : Below w.heap.size w (w.alloc (.cells (entV e) 35)) := (Below.refl _ _).alloc (Nat.le_refl _) _
  have HX := Lib.hid hx
  have HB := Lib.hid hb
  have HE := Lib.hid he
  have HGD := Lib.hid (fun w' => ref_goodDraft e.d he.ok.ref he.key he.val w')
  clear hx hb he
  obtain ⟨out, hout⟩ : ∃ b, decide (OutE e) = b := ⟨_, rfl⟩
  obtain ⟨non, hnon⟩ : ∃ b, decide (e.d = noD) = b := ⟨_, rfl⟩
  obtain ⟨bare, hbare⟩ : ∃ b, decide (BareE e) = b := ⟨_, rfl⟩
  obtain ⟨gd, hgd⟩ : ∃ b, decide (GoodD e.d) = b := ⟨_, rfl⟩
  have HO := Shut.mk hout
  have HN := Shut.mk hnon
  have HR := Shut.mk hbare
  have HG := Shut.mk hgd
  rw [hgd] at HGD
  clear hout hnon hbare hgd
  go_enter Tryd.func22, Tryd.ntmps22
  go_upto_region 1 with (fail)
  obtain ⟨w1, hw1⟩ : ∃ x, x = w.alloc (.cells (entV e) 35) := ⟨_, rfl⟩
  rw [← hw1] at HX HB ⊢
  clear hw1
  obtain ⟨c0, cd, cf, cq, cp, cm, cy, cs⟩ := ent_cells HE.out.ok HX.out
  obtain ⟨d0, d1, d2, d3⟩ := draft_mid cd
  have HCD := Lib.hid cd
  have HCP := Lib.hid cp
  have HD3 := Lib.hid d3
  have HSI := Lib.hid (show (Tryd.prog.info? 24).map (·.size) = some (nums .u8 e.d.ref).length by rw [nums_len, HE.out.ok.ref.1]; exact Tryd.sizeI)
  have HSP := Lib.hid (show (Tryd.prog.info? 24).map (·.size) = some (nums .u8 e.prev).length by rw [nums_len, HE.out.ok.prev.1]; exact Tryd.sizeI)
  have HSD := Lib.hid (show (Tryd.prog.info? 33).map (·.size) = some (draftL e.d).length by rw [draftL_len HE.out.ok.ref.1]; exact Tryd.sizeD)
  have heq := fun w' => equal_idI e.d.ref zeroI HE.out.ok.ref.1 zeroI_ok.1 HE.out.ok.ref.2 zeroI_ok.2 w'
  have hpq := fun w' => equal_idI e.prev zeroI HE.out.ok.prev.1 zeroI_ok.1 HE.out.ok.prev.2 zeroI_ok.2 w'
  rw [zeroI_lit] at heq hpq
  have HEQ := Lib.hid heq
  have HPQ := Lib.hid hpq
  clear cd cp d3 heq hpq
  obtain ⟨k, hk⟩ : ∃ x, e.kind = x := ⟨_, rfl⟩
  obtain ⟨dk, hdk⟩ : ∃ x, e.d.kind = x := ⟨_, rfl⟩
  obtain ⟨f, hf⟩ : ∃ x, e.src = x := ⟨_, rfl⟩
  obtain ⟨q, hq⟩ : ∃ x, e.seq = x := ⟨_, rfl⟩
  obtain ⟨m, hm⟩ : ∃ x, e.mask = x := ⟨_, rfl⟩
  obtain ⟨yl, hyl⟩ : ∃ n, e.pay.length = n := ⟨_, rfl⟩
  obtain ⟨sl, hsl⟩ : ∃ n, e.sig.length = n := ⟨_, rfl⟩
  have HOE := Shut.mk (show OutE e ↔ 1 ≤ m ∧ m ≤ 31 ∧ yl ≤ 2048 by rw [OutE, hm, hyl])
  have HNE := Shut.mk (show e.d = noD ↔ dk = 0 ∧ e.d.key = [] ∧ e.d.val = [] ∧ e.d.ref = zeroI by
    rw [← hdk]
    exact noD_iff e.d)
  have HBE := Shut.mk (show BareE e ↔ f = 0 ∧ q = 0 ∧ e.prev = zeroI ∧ e.sig = [] by rw [BareE, hf, hq])
  have HGE := Shut.mk (show GoodE e ↔ (k = 1 ∧ gd = true ∧ bare = true ∧ m = 0 ∧ e.pay = []) ∨ (k = 2 ∧ out = true ∧ non = true ∧ 0 ≤ f ∧ f ≤ 4 ∧ 1 ≤ q ∧ sl ≤ 1024) ∨ (k = 3 ∧ out = true ∧ non = true ∧ bare = true) by
    rw [GoodE, hk, hm, hf, hq, hsl, ← HO.out, ← HN.out, ← HR.out, ← HG.out]
    simp only [decide_eq_true_eq])
  rw [hk] at c0
  rw [hdk] at d0
  rw [hf] at cf
  rw [hq] at cq
  rw [hm] at cm
  clear hk hdk hf hq hm
  go_cut [3] from 6 to 20 (fun s wx => s = .bool out ∧ wx = w1)
  case first =>
    by_cases h1 : 1 ≤ m
    · have g1 : decide (1 ≤ m) = true := decide_eq_true h1
      by_cases h2 : m ≤ 31
      · have g2 : decide (m ≤ 31) = true := decide_eq_true h2
        by_cases h3 : yl ≤ 2048
        · have g3 : decide ((yl : Int) ≤ 2048) = true := decide_eq_true (by omega)
          go_wp2_with fail
          go_meet
          case rel => exact ⟨by rw [← HO.out, decide_eq_true (HOE.out.2 ⟨h1, h2, h3⟩)], rfl⟩
        · have g3 : decide ((yl : Int) ≤ 2048) = false := decide_eq_false (by omega)
          go_wp2_with fail
          go_meet
          case rel => exact ⟨by rw [← HO.out, decide_eq_false (fun h => by have := (HOE.out.1 h).2.2; omega)], rfl⟩
      · have g2 : decide (m ≤ 31) = false := decide_eq_false h2
        go_wp2_with fail
        go_meet
        case rel => exact ⟨by rw [← HO.out, decide_eq_false (fun h => by have := (HOE.out.1 h).2.1; omega)], rfl⟩
    · have g1 : decide (1 ≤ m) = false := decide_eq_false h1
      go_wp2_with fail
      go_meet
      case rel => exact ⟨by rw [← HO.out, decide_eq_false (fun h => by have := (HOE.out.1 h).1; omega)], rfl⟩
  case rest =>
  obtain ⟨rfl, hwc⟩ := hcut
  rw [hwc]
  clear hwc
  clear HOE
  obtain ⟨kb, hkb⟩ : ∃ b, (e.d.key == []) = b := ⟨_, rfl⟩
  obtain ⟨vb, hvb⟩ : ∃ b, (e.d.val == []) = b := ⟨_, rfl⟩
  obtain ⟨sb, hsb⟩ : ∃ b, (e.sig == []) = b := ⟨_, rfl⟩
  obtain ⟨yb, hyb⟩ : ∃ b, (e.pay == []) = b := ⟨_, rfl⟩
  obtain ⟨rb, hrb⟩ : ∃ b, (e.d.ref == zeroI) = b := ⟨_, rfl⟩
  obtain ⟨pb, hpb⟩ : ∃ b, (e.prev == zeroI) = b := ⟨_, rfl⟩
  have HNB := Shut.mk (show non = (decide (dk = 0) && kb && vb && rb) by
    rw [← HN.out, ← hkb, ← hvb, ← hrb, nil_beq_dec, nil_beq_dec, Bool.eq_iff_iff]
    simp only [decide_eq_true_eq, Bool.and_eq_true, beq_iff_eq]
    rw [HNE.out]
    exact ⟨fun ⟨a, b, c, d⟩ => ⟨⟨⟨a, b⟩, c⟩, d⟩, fun ⟨⟨⟨a, b⟩, c⟩, d⟩ => ⟨a, b, c, d⟩⟩)
  have HBB := Shut.mk (show bare = (decide (f = 0) && decide (q = 0) && pb && sb) by
    rw [← HR.out, ← hpb, ← hsb, nil_beq_dec, Bool.eq_iff_iff]
    simp only [decide_eq_true_eq, Bool.and_eq_true, beq_iff_eq]
    rw [HBE.out]
    exact ⟨fun ⟨a, b, c, d⟩ => ⟨⟨⟨a, b⟩, c⟩, d⟩, fun ⟨⟨⟨a, b⟩, c⟩, d⟩ => ⟨a, b, c, d⟩⟩)
  have HYB := Shut.mk hyb
  rw [hrb] at HEQ
  rw [hpb] at HPQ
  clear HNE HBE hrb hpb
  go_upto_region 2 with (fail)
  go_cut [4] from 20 to 43 (fun s wx => s = .bool non ∧ wx = w1)
  case first =>
    have heq := HEQ.out
    by_cases h1 : dk = 0
    · have g1 : (dk == 0) = true := by simp [h1]
      rw [decide_eq_true h1, Bool.true_and] at HNB
      cases kb with
      | false =>
        go_wp2_with fail
        go_meet
        case rel => exact ⟨by rw [HNB.out]; rfl, rfl⟩
      | true =>
        cases vb with
        | false =>
          go_wp2_with fail
          go_meet
          case rel => exact ⟨by rw [HNB.out]; rfl, rfl⟩
        | true =>
          go_wp2_with (refine wpList_load_mid_want (by rfl) 24 _ rfl w.heap.size 4 rfl _ _ HD3.out Tryd.underlying24 rfl HSI.out ?_)
          go_meet
          case rel => exact ⟨by rw [HNB.out]; rfl, rfl⟩
    · have g1 : (dk == 0) = false := by simp [h1]
      rw [decide_eq_false h1] at HNB
      go_wp2_with fail
      go_meet
      case rel => exact ⟨by rw [HNB.out]; rfl, rfl⟩
  case rest =>
  obtain ⟨rfl, hwc⟩ := hcut
  rw [hwc]
  clear hwc HNB HEQ HD3 HSI
  go_upto_region 3 with (fail)
  go_cut [5] from 43 to 62 (fun s wx => s = .bool bare ∧ wx = w1)
  case first =>
    have heq := HPQ.out
    by_cases h1 : f = 0
    · have g1 : (f == 0) = true := by simp [h1]
      rw [decide_eq_true h1, Bool.true_and] at HBB
      by_cases h2 : q = 0
      · have g2 : (q == 0) = true := by simp [h2]
        rw [decide_eq_true h2, Bool.true_and] at HBB
        cases pb with
        | false =>
          go_wp2_with (refine wpList_load_mid_want (by rfl) 24 _ rfl w.heap.size 38 rfl _ _ HCP.out Tryd.underlying24 rfl HSP.out ?_)
          go_meet
          case rel => exact ⟨by rw [HBB.out]; rfl, rfl⟩
        | true =>
          go_wp2_with (refine wpList_load_mid_want (by rfl) 24 _ rfl w.heap.size 38 rfl _ _ HCP.out Tryd.underlying24 rfl HSP.out ?_)
          go_meet
          case rel => exact ⟨by rw [HBB.out]; rfl, rfl⟩
      · have g2 : (q == 0) = false := by simp [h2]
        rw [decide_eq_false h2] at HBB
        go_wp2_with fail
        go_meet
        case rel => exact ⟨by rw [HBB.out]; rfl, rfl⟩
    · have g1 : (f == 0) = false := by simp [h1]
      rw [decide_eq_false h1] at HBB
      go_wp2_with fail
      go_meet
      case rel => exact ⟨by rw [HBB.out]; rfl, rfl⟩
  case rest =>
  obtain ⟨rfl, hwc⟩ := hcut
  rw [hwc]
  clear hwc HBB HPQ HCP HSP
  by_cases h1 : k = 1
  · have g1 : (k == 1) = true := by simp [h1]
    have HZ := Shut.mk (show decide (GoodE e) = (gd && bare && decide (m = 0) && yb) by
      rw [← HYB.out, nil_beq_dec, Bool.eq_iff_iff]
      simp only [decide_eq_true_eq, Bool.and_eq_true]
      rw [HGE.out]
      constructor
      · rintro (⟨_, a, b, c, d⟩ | ⟨h, _⟩ | ⟨h, _⟩)
        · exact ⟨⟨⟨a, b⟩, c⟩, d⟩
        · omega
        · omega
      · rintro ⟨⟨⟨a, b⟩, c⟩, d⟩
        exact .inl ⟨h1, a, b, c, d⟩)
    clear h1
    go_wp2_with (refine wpList_load_mid rfl 33 _ rfl w.heap.size 1 rfl _ _ HCD.out Tryd.underlying33 rfl HSD.out ?_)
    refine (HGD.out w1).mono ?_
    rintro r w2 ⟨rfl, hb⟩
    have HB2 := Lib.hid (HB.out.trans (hb.mono HB.out.size))
    have hg := HX.out.lt
    have cm2 := (hb.cell (p := ⟨w.heap.size, 70, none⟩) hg).trans cm
    have cy2 := (hb.cell (p := ⟨w.heap.size, 71, none⟩) hg).trans cy
    clear hb HB hg cm cy
    cases gd with
    | false =>
      go_wp2_with fail
      go_ret
      exact ⟨by rw [HZ.out]; rfl, HB2.out⟩
    | true =>
      cases bare with
      | false =>
        go_wp2_with fail
        go_ret
        exact ⟨by rw [HZ.out]; rfl, HB2.out⟩
      | true =>
        by_cases h2 : m = 0
        · have g2 : (m == 0) = true := by simp [h2]
          rw [decide_eq_true h2] at HZ
          go_wp2_with fail
          go_ret
          exact ⟨by rw [HZ.out]; rfl, HB2.out⟩
        · have g2 : (m == 0) = false := by simp [h2]
          rw [decide_eq_false h2] at HZ
          go_wp2_with fail
          go_ret
          exact ⟨by rw [HZ.out]; rfl, HB2.out⟩
  have g1 : (k == 1) = false := by simp [h1]
  by_cases h2 : k = 2
  · have g2 : (k == 2) = true := by simp [h2]
    have HZ := Shut.mk (show decide (GoodE e) = (out && non && decide (0 ≤ f) && decide (f ≤ 4) && decide (1 ≤ q) && decide ((sl : Int) ≤ 1024)) by
      rw [Bool.eq_iff_iff]
      simp only [decide_eq_true_eq, Bool.and_eq_true]
      rw [HGE.out]
      constructor
      · rintro (⟨h, _⟩ | ⟨_, a, b, c, d, x, y⟩ | ⟨h, _⟩)
        · omega
        · exact ⟨⟨⟨⟨⟨a, b⟩, c⟩, d⟩, x⟩, by omega⟩
        · omega
      · rintro ⟨⟨⟨⟨⟨a, b⟩, c⟩, d⟩, x⟩, y⟩
        exact .inr (.inl ⟨h2, a, b, c, d, x, by omega⟩))
    clear h1 h2
    obtain ⟨b1, hb1⟩ : ∃ b, decide (0 ≤ f) = b := ⟨_, rfl⟩
    obtain ⟨b2, hb2⟩ : ∃ b, decide (f ≤ 4) = b := ⟨_, rfl⟩
    obtain ⟨b3, hb3⟩ : ∃ b, decide (1 ≤ q) = b := ⟨_, rfl⟩
    obtain ⟨b4, hb4⟩ : ∃ b, decide ((sl : Int) ≤ 1024) = b := ⟨_, rfl⟩
    rw [hb1, hb2, hb3, hb4] at HZ
    cases out with
    | false =>
      go_wp2_with fail
      go_ret
      exact ⟨by rw [HZ.out]; rfl, HB.out⟩
    | true =>
    cases non with
    | false =>
      go_wp2_with fail
      go_ret
      exact ⟨by rw [HZ.out]; rfl, HB.out⟩
    | true =>
    cases b1 with
    | false =>
      go_wp2_with fail
      go_ret
      exact ⟨by rw [HZ.out]; rfl, HB.out⟩
    | true =>
    cases b2 with
    | false =>
      go_wp2_with fail
      go_ret
      exact ⟨by rw [HZ.out]; rfl, HB.out⟩
    | true =>
    cases b3 with
    | false =>
      go_wp2_with fail
      go_ret
      exact ⟨by rw [HZ.out]; rfl, HB.out⟩
    | true =>
    cases b4 with
    | false =>
      go_wp2_with fail
      go_ret
      exact ⟨by rw [HZ.out]; rfl, HB.out⟩
    | true =>
      go_wp2_with fail
      go_ret
      exact ⟨by rw [HZ.out]; rfl, HB.out⟩
  have g2 : (k == 2) = false := by simp [h2]
  have HZ := Shut.mk (show decide (GoodE e) = (decide (k = 3) && out && non && bare) by
    rw [Bool.eq_iff_iff]
    simp only [decide_eq_true_eq, Bool.and_eq_true]
    rw [HGE.out]
    constructor
    · rintro (⟨h, _⟩ | ⟨h, _⟩ | ⟨a, b, c, d⟩)
      · omega
      · omega
      · exact ⟨⟨⟨a, b⟩, c⟩, d⟩
    · rintro ⟨⟨⟨a, b⟩, c⟩, d⟩
      exact .inr (.inr ⟨a, b, c, d⟩))
  by_cases h3 : k = 3
  · have g3 : (k == 3) = true := by simp [h3]
    rw [decide_eq_true h3] at HZ
    clear h1 h2 h3
    cases out with
    | false =>
      go_wp2_with fail
      go_ret
      exact ⟨by rw [HZ.out]; rfl, HB.out⟩
    | true =>
    cases non with
    | false =>
      go_wp2_with fail
      go_ret
      exact ⟨by rw [HZ.out]; rfl, HB.out⟩
    | true =>
      go_wp2_with fail
      go_ret
      exact ⟨by rw [HZ.out]; rfl, HB.out⟩
  · have g3 : (k == 3) = false := by simp [h3]
    rw [decide_eq_false h3] at HZ
    clear h1 h2 h3
    go_wp2_with fail
    go_ret
    exact ⟨by rw [HZ.out]; rfl, HB.out⟩
end Go.Proofs.YtpfhlhcnmeodbaaDoor
namespace Go.Proofs.YtpfhlhcnmeodbaaDoor
open Go.RowKit Go.BigFrame
theorem ref_num9 (n : Int) (w : World) (h2 : n ≤ 9223372036854775807) :
    Calls Tryd.prog 122 #[.int .i64 n] w fun e w' => e = .returned (.string ⟨(numB n.toNat).toArray⟩) ∧ Below w.heap.size w w' := by
  by_cases h0 : n < 0
  · have HN := Lib.hid (rnumref_any 0 w (by decide))
    have HE := Shut.mk (show n.toNat = 0 by omega)
    go_enter Tryd.func122, Tryd.ntmps122
    go_wp2_with fail
    refine HN.out.mono ?_
    rintro e w1 ⟨rfl, hb⟩
    have HB := Lib.hid hb
    clear hb
    go_wp2_with fail
    go_ret
    exact ⟨by rw [HE.out]; rfl, HB.out⟩
  · obtain ⟨m, rfl⟩ := Int.eq_ofNat_of_zero_le (show 0 ≤ n by omega)
    have HN := Lib.hid (rnumref_any m w (by omega))
    have hnl : ¬ (m : Int) < 0 := h0
    go_enter Tryd.func122, Tryd.ntmps122
    go_wp2_with fail
    refine HN.out.mono ?_
    rintro e w1 ⟨rfl, hb⟩
    have HB := Lib.hid hb
    clear hb
    go_wp2_with fail
    go_ret
    exact ⟨by rw [Int.toNat_natCast]; rfl, HB.out⟩
set_option maxHeartbeats 4000000 in
set_option maxRecDepth 100000 in
theorem ref_draftText (d : DraftN) (hd : d.Fit) (w : World) :
    Calls Tryd.prog 101 #[.agg (draftV d)] w fun e w' => e = .returned (.string ⟨(draftB d).toArray⟩) ∧ Below w.heap.size w w' := by
  have hx : Cells w.heap.size 33 (draftV d) (w.alloc (.cells (draftV d) 33)) := heap_alloc_new w _
  have hb : Below w.heap.size w (w.alloc (.cells (draftV d) 33)) := (Below.refl _ _).alloc (Nat.le_refl _) _
  have HX := Lib.hid hx
  have HB := Lib.hid hb
  have HD := Lib.hid hd
  have HLEN := Lib.hid (draftB_le9 hd)
  clear hx hb hd
  go_enter Tryd.func101, Tryd.ntmps101
  go_upto_region 1 with (fail)
  obtain ⟨w1, hw1⟩ : ∃ x, x = w.alloc (.cells (draftV d) 33) := ⟨_, rfl⟩
  rw [← hw1] at HX HB ⊢
  clear hw1
  obtain ⟨c0, c1, c2, c3⟩ := draft_cells HX.out
  have hg := HX.out.lt
  obtain ⟨k, hk⟩ : ∃ k, d.kind = k := ⟨_, rfl⟩
  have HK := Shut.mk hk
  rw [hk] at c0
  have HC0 := Lib.hid (fun (w' : World) (q : Below w1.heap.size w1 w') => (q.cell (p := ⟨w.heap.size, 0, none⟩) hg).trans c0)
  have HC1 := Lib.hid (fun (w' : World) (q : Below w1.heap.size w1 w') => (q.cell (p := ⟨w.heap.size, 1, none⟩) hg).trans c1)
  have HC2 := Lib.hid (fun (w' : World) (q : Below w1.heap.size w1 w') => (q.cell (p := ⟨w.heap.size, 2, none⟩) hg).trans c2)
  have HC3 := Lib.hid (fun (w' : World) (q : Below w1.heap.size w1 w') => conv_mid (P := Tryd.prog) (src := 73) (dst := 9) (c := 32) Tryd.underlying73 Tryd.underlying5 Tryd.underlying9 HD.out.ref.1.symm HD.out.ref.2 (rangeAt_belowI c3 q hg))
  have HN := Lib.hid (fun w' => ref_num9 k w' (by have := HD.out.high; rw [hk] at this; exact this))
  clear c0 c1 c2 c3 hg hk
  refine wp_region_class_tail (fun w' => Below w1.heap.size w1 w') 10 (by kernel_rfl) (by kernel_rfl) (Below.refl _ _).drew ?_
  simp only [List.take_succ_cons, List.take_zero, List.drop_succ_cons, List.drop_zero]
  repeat (first
    | (go_big_quiet_want; refine quiet_load_cell 3 _ rfl ⟨w.heap.size, 0, none⟩ _ rfl HC0.out Tryd.isAgg3 ?_; go_big_quiet_on; simp only [Act.put, List.setIfInBounds_toArray, List.set_cons_zero, List.set_cons_succ])
    | (go_big_quiet_want; refine quiet_load_cell 9 _ rfl ⟨w.heap.size, 1, none⟩ _ rfl HC1.out Tryd.isAgg9 ?_; go_big_quiet_on; simp only [Act.put, List.setIfInBounds_toArray, List.set_cons_zero, List.set_cons_succ])
    | (go_big_quiet_want; refine quiet_load_cell 9 _ rfl ⟨w.heap.size, 2, none⟩ _ rfl HC2.out Tryd.isAgg9 ?_; go_big_quiet_on; simp only [Act.put, List.setIfInBounds_toArray, List.set_cons_zero, List.set_cons_succ])
    | (go_big_quiet_want; refine quiet_conv 73 9 _ rfl (.slice (some ⟨w.heap.size, 3, none⟩) 32 32) _ rfl HC3.out ?_; go_big_quiet_on; simp only [Act.put, List.setIfInBounds_toArray, List.set_cons_zero, List.set_cons_succ])
    | go_big_quiet_step ((intro hs'; first
        | (go_at_call 122; exact (HN.out _).mono fun e w' h => ⟨h.1, hs'.trans (h.2.mono hs'.size)⟩)
        | rfl)))
  refine wpQuiet_nil ?_
  intro w2 hs2
  have HB2 := Lib.hid (HB.out.trans (hs2.mono HB.out.size))
  clear hs2 HX HB HC0 HC1 HC2 HC3 HN
  go_wp2_with fail
  refine (rlistref_any (some ⟨w2.heap.size, 0, none⟩) 4 [numB k.toNat, d.key, d.val, txt d.ref] _ (at_four9 w2 _ _ _ _) (by simp) (by have := HLEN.out; rw [draftB, HK.out] at this; omega)).mono ?_
  rintro e w3 ⟨rfl, hb⟩
  have HB3 := Lib.hid (HB2.out.trans (((Below.refl _ w2).alloc (Nat.le_refl _) _).trans (hb.mono (by simp)) |>.mono HB2.out.size))
  clear hb HB2
  go_wp2_with fail
  go_ret
  exact ⟨by rw [draftB, HK.out]; rfl, HB3.out⟩
end Go.Proofs.YtpfhlhcnmeodbaaDoor
