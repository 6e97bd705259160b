/-
  Joined: The developers' log: Append. Written by chain/gen/gen_app.py.; What the laws of layer 16 ask first: alive, great.; The document's num, LinkText, Link, Word of layer 16.; The document's Meet.; The document's half of layer 5.; Climb, the document's and the developers'.
-/
import Derived.Test.YtpfhlhcnmeodbaaDoorK01
import Derived.Test.YtpfhlhcnmeodbaaDoorK02
import Derived.Test.YtpfhlhcnmeodbaaDoorK04
import Derived.Test.YtpfhlhcnmeodbaaDoorK05
import Derived.Test.YtpfhlhcnmeodbaaDoorK07
import Derived.Test.YtpfhlhcnmeodbaaDoorK08
import Derived.Test.YtpfhlhcnmeodbaaDoorK09
namespace Go.Proofs.YtpfhlhcnmeodbaaDoor
open Go.RowKit Go.BigFrame
theorem OwnI.rows {B : Nat} {e : TypeId} {v : Value} {L : List (List Nat)} {w : World} (h : OwnI B e v L w) : OwnR B 32 e v (L.map (nums .u8)) w := by
  unfold OwnR
  rw [List.length_map, ← List.flatMap_def]
  exact h
theorem OwnR.ids {B : Nat} {e : TypeId} {v : Value} {L : List (List Nat)} {w : World} (h : OwnR B 32 e v (L.map (nums .u8)) w) : OwnI B e v L w := by
  unfold OwnR at h
  rw [List.length_map, ← List.flatMap_def] at h
  exact h
theorem wide_ids {L : List (List Nat)} (h : Ids L) : Wide 32 (L.map (nums .u8)) := wide_map fun x hx => by rw [nums_len, (h x hx).1]
theorem OwnI.nocap {B : Nat} {e : TypeId} {n c : Nat} {L : List (List Nat)} {w : World} (h : OwnI B e (.slice none n c) L w) : c = 0 := by
  rcases h.2 with ⟨h1, _⟩ | ⟨g, cap, cur, h1, _⟩
  · simp only [Value.slice.injEq] at h1
    exact h1.2.2
  · cases h1
theorem op_push_ids {w : World} {o : Oper} {a : Act} {K : Act → World → Prop} {Q : Exit → Act → World → Prop} (hgd : o.guard = none) (s x : Operand) (ho : o.op = .call { callee := .builtin .append, args := #[s, x], argTypes := #[29, 29] })
    (B B2 : Nat) (v u : Value) (L M : List (List Nat)) (hM : Ids M) (hs : a.eval s = v) (hown : OwnI B 24 v L w) (hx : a.eval x = u) (hsrc : OwnI B2 24 u M w) (h63 : L.length + M.length ≤ 1000000) (hB : B ≤ w.heap.size)
    (h : ∀ v' w', OwnI B 24 v' (L ++ M) w' → w.grownBy w' v.ownBlock → (v'.ownBlock = v.ownBlock ∨ v'.ownBlock = some w.heap.size) → K (a.put o.dst v') w') : OpWp Tryd.prog o a w K Q := by
  obtain ⟨ao, c, rfl⟩ := hsrc.form
  refine op_of_list (ops := #[]) hgd (wpList_append_rowsv hgd s x 29 24 ho B 32 32 (.agg (nums .u8 (List.replicate 32 0)).toArray) rfl (by decide) (by decide) Tryd.underlying29 Tryd.infoI32 v (L.map (nums .u8)) (M.map (nums .u8)) (wide_ids hM) (fun y hy => by
    obtain ⟨c, hc, hy⟩ := List.mem_flatten.1 hy
    obtain ⟨e, _, rfl⟩ := List.mem_map.1 hc
    exact nums_one _ _ y hy) ao M.length c (by rw [List.length_map]) hs hown.rows hx (hsrc.rows.rat (wide_ids hM)) (fun e => by subst e; exact hsrc.nocap) (by rw [List.length_map, List.length_map]; exact h63) hB (fun v' w' h1 h2 h3 => ⟨rfl, h v' w' ?_ h2.out h3.out⟩))
  have q := h1.out
  rw [← List.map_append] at q
  exact q.ids
def AppM (w9 : World) (gH : Nat) (hs : List Nat) (W A : List (List Nat)) : Nat → Value → World → Prop
  | 0, _, w' => Below w9.heap.size w9 w'
  | 1, v, w' => v = .agg (nums .u8 hs).toArray ∧ Below w9.heap.size w9 w'
  | 2, v, w' => OwnI w9.heap.size 24 v W w' ∧ Below w9.heap.size w9 w'
  | _, v, w' => OwnI 0 24 v A w' ∧ (∀ z, v.ownBlock = some z → z = gH ∨ w9.heap.size ≤ z)
theorem field_logD3 (g : Nat) (w : World) : (Instr.fieldAt 102 (.pointer (some ⟨g, 0, none⟩)) 3).run Tryd.prog w = .ok (.pointer (some ⟨g, 3, none⟩)) w := by kernel_rfl
theorem index_id16 (b n c j : Nat) (hj : j < n) (w : World) : (Instr.indexAt 29 (.slice (some ⟨b, 0, none⟩) n c) (.int .i64 (j : Int))).run Tryd.prog w = .ok (.pointer (some ⟨b, j * 32, none⟩)) w := by
  have h1 : (j : Int) < (n : Int) := by omega
  go_simp
theorem rows_apart {K K2 : Nat} {e e2 : TypeId} {v v2 : Value} {C C2 : List (List Value)} {w : World} (h : RowK K e v C w) (h2 : RowK K2 e2 v2 C2 w) (hne : e ≠ e2) {z : Nat} (hz : v.ownBlock = some z) : v2.ownBlock ≠ some z := fun hu => by
  obtain ⟨c1, h3⟩ := h.heap hz
  obtain ⟨c2, h4⟩ := h2.heap hu
  rw [h3] at h4
  simp only [Option.some.injEq, Obj.cells.injEq] at h4
  exact hne h4.2.1
theorem appE_one {h : Nat} {L M : List EntN} {x : EntN} (hx : x ∈ M) (hg : ¬ GoodE x) : appE h L M = 1 := by rw [appE, if_neg (fun q => hg (q x hx))]
theorem appL_no {h : Nat} {L M : List EntN} (e : appE h L M ≠ 0) : appL h L M = L := by rw [appL, if_neg e]
theorem appL_yes {h : Nat} {L M : List EntN} (e : appE h L M = 0) : appL h L M = L ++ M := by rw [appL, if_pos e]
set_option maxHeartbeats 8000000 in
set_option maxRecDepth 100000 in
theorem dev_append {N : Nat} {O : Nat → Prop} {v : Value} {nd : Int} {seed : List UInt8} {h : Nat} {L : List EntN} (ao : Option Addr) (M : List EntN) (c : Nat) (w : World) (l : LogIs N O v nd seed h L w) (hl : L.length ≤ 2 ^ h) (_hL : ∀ x ∈ L, x.Len ∧ x.seq < 9223372036854775808) (hM : ∀ x ∈ M, x.Len ∧ x.seq < 9223372036854775808) (hn : M.length ≤ 1000000)
    (hat : EntsAt ao M w) (hnl : ao = none → c = 0) (hap : M ≠ [] → ∀ a, ao = some a → ¬ O a.block) (hk : KAt w) (hN : 0 < N) :
    Calls Tryd.prog 31 #[v, .slice ao M.length c] w fun e w' => e = .returned (.int .i64 (appE h L M : Nat)) ∧ ∃ O', LogIs N O' v nd seed h (appL h L M) w' ∧ Turn O O' w w' := by
  have HL := Lib.hid l
  have HLH := Lib.hid hl
  have HMM := Lib.hid hM
  have HAT := Lib.hid hat
  have HNL := Lib.hid hnl
  have HAP := Lib.hid hap
  have HK := Lib.hid hk
  have HKN := Lib.hid hN
  obtain ⟨va, rfl⟩ := l.ptr
  obtain ⟨m, hm⟩ : ∃ m, M.length = m := ⟨_, rfl⟩
  have HM := Shut.mk hm
  rw [hm] at hn ⊢
  have HZE := Lib.hid (show (Tryd.prog.info? 35).bind (·.zero) = some (.agg (entL noE).toArray) by kernel_rfl)
  clear l hl hM hat hnl hap hk hN hm
  go_enter Tryd.func31, Tryd.ntmps31
  go_wp2_with fail
  go_loopw [12] (fun i wr => ∃ k : Nat, k ≤ m ∧ i = .int .i64 k ∧ (∀ x ∈ M.take k, GoodE x) ∧ Below w.heap.size w wr) (fun i _ => m - (intOf i).toNat)
  case atStart => exact ⟨0, Nat.zero_le _, rfl, (fun x hx => by cases hx), Below.refl _ _⟩
  case round =>
    obtain ⟨k, hk, rfl, hg, hb⟩ := hrel
    have HG := Lib.hid hg
    have HBW := Lib.hid hb
    have HATW := Lib.hid (HAT.out.below hb)
    have HLW := Lib.hid (HL.out.below hb)
    have HKW := Lib.hid (HK.out.below hb)
    clear hb hg
    by_cases hkm : k < m
    · obtain ⟨y, hy⟩ : ∃ y, M[k]? = some y := ⟨_, List.getElem?_eq_getElem (by rw [HM.out]; exact hkm)⟩
      have HYM := Lib.hid (List.mem_of_getElem? hy)
      have HY := Lib.hid (HMM.out y HYM.out)
      have HTK := Lib.hid (show M.take (k + 1) = M.take k ++ [y] by
        have h1 : M[k]'(by rw [HM.out]; exact hkm) = y := by
          rw [List.getElem?_eq_getElem (by rw [HM.out]; exact hkm)] at hy
          exact Option.some.inj hy
        rw [List.take_succ_eq_append_getElem (by rw [HM.out]; exact hkm), h1])
      obtain ⟨bb, ob, rfl, hbl, hr⟩ := HATW.out.getM hy
      have HR := Lib.hid hr
      have HSL := Lib.hid (sizeEL HY.out.1.ok)
      have HSV := Lib.hid (sizeEV HY.out.1.ok)
      have HGD := Lib.hid (fun w' => dev_good15 y HY.out.1 w')
      obtain ⟨g, hgd⟩ : ∃ g, decide (GoodE y) = g := ⟨_, rfl⟩
      have HGG := Shut.mk hgd
      rw [hgd] at HGD
      clear hy hbl hr hgd
      go_wp2_with (first
        | (refine wpList_load_mid rfl 35 _ rfl bb (ob + k * 73) rfl _ _ HR.out Tryd.underlying35 rfl HSL.out ?_)
        | (refine wpList_alloc_of rfl 35 rfl (entL noE) HZE.out ?_)
        | (refine wpList_store_cells rfl 35 _ _ rfl rfl wr.heap.size (entV noE) (entV y) 35 rfl rfl (heap_alloc_new wr _) HSV.out (by rw [entV_size HY.out.1.ok]; rfl) (entV_all y) ?_))
      intro w4 hc hb
      have hb4 : Below wr.heap.size wr w4 := But.toBelow ((Below.refl _ wr).alloc (Nat.le_refl _) _) hb.out (Nat.le_refl _) (by rw [World.size_alloc]; exact Nat.le_succ _)
      have HC4 := Lib.hid hc.out
      have HB4 := Lib.hid (HBW.out.trans (hb4.mono HBW.out.size))
      obtain ⟨g5, hg5⟩ : ∃ g, wr.heap.size = g := ⟨_, rfl⟩
      rw [hg5] at HC4 ⊢
      clear hc hb hb4 hg5 HR HSL
      go_wp2_with (refine wpList_load_cells rfl 35 _ rfl g5 (entV y) 35 _ rfl HC4.out Tryd.underlying35 rfl HSV.out ?_)
      refine (HGD.out w4).mono ?_
      rintro r w5 ⟨rfl, hb⟩
      have HB5 := Lib.hid (HB4.out.trans (hb.mono HB4.out.size))
      clear hb HB4 HC4
      cases g with
      | false =>
        have HA := Shut.mk (appE_one (h := h) (L := L) HYM.out (of_decide_eq_false HGG.out))
        go_wp2_with fail
        go_ret
        exact ⟨by rw [HA.out]; rfl, _, by rw [appL_no (by rw [HA.out]; decide)]; exact HL.out.below HB5.out, Turn.of HB5.out⟩
      | true =>
        go_wp2_with fail
        exact ⟨⟨k + 1, by omega, by go_num, fun x hx => by
          rw [HTK.out] at hx
          rcases List.mem_append.1 hx with hx | hx
          · exact HG.out x hx
          · obtain rfl := List.mem_singleton.1 hx
            exact of_decide_eq_true HGG.out, HB5.out⟩, by simp [intOf]; omega⟩
    · obtain rfl : k = m := by omega
      have HGA := Lib.hid (show ∀ x ∈ M, GoodE x from fun x hx => HG.out x (by rw [List.take_of_length_le (by rw [HM.out]; exact Nat.le_refl _)]; exact hx))
      have HLF := Lib.hid (fun w' (b : Below wr.heap.size wr w') => dev_left w' (HLW.out.below b) HLH.out)
      have HLE := Lib.hid (fun w' (b : Below wr.heap.size wr w') => dev_len w' (HLW.out.below b))
      obtain ⟨n, hnn⟩ : ∃ n, L.length = n := ⟨_, rfl⟩
      obtain ⟨P2, hP2⟩ : ∃ n, 2 ^ h = n := ⟨_, rfl⟩
      have HN := Shut.mk hnn
      have HP2 := Shut.mk hP2
      have HNP := Lib.hid (show n ≤ P2 by rw [← hnn, ← hP2]; exact HLH.out)
      rw [hnn, hP2] at HLF
      rw [hnn] at HLE
      clear hnn hP2 HG HZE
      go_wp2_with fail
      refine (HLF.out wr (Below.refl _ _)).mono ?_
      rintro r w6 ⟨rfl, hb6⟩
      have HB6 := Lib.hid hb6
      clear hb6 HLF
      by_cases hsp : P2 - n < k
      · have HA := Shut.mk (show appE h L M = 8 by rw [appE, if_pos HGA.out, if_neg (by rw [HN.out, HM.out, HP2.out]; have := HNP.out; omega)])
        have hsq : ((P2 - n : Nat) : Int) < (k : Int) := by omega
        go_wp2_with fail
        go_ret
        exact ⟨by rw [HA.out]; rfl, _, by rw [appL_no (by rw [HA.out]; decide)]; exact HL.out.below (HBW.out.trans (HB6.out.mono HBW.out.size)), Turn.of (HBW.out.trans (HB6.out.mono HBW.out.size))⟩
      have HA := Shut.mk (show appE h L M = 0 by rw [appE, if_pos HGA.out, if_pos (by rw [HN.out, HM.out, HP2.out]; have := HNP.out; omega)])
      have HAL := Shut.mk (appL_yes HA.out)
      have hsq : ¬ ((P2 - n : Nat) : Int) < (k : Int) := by omega
      have HSP := Lib.hid (show n + k ≤ P2 by have := HNP.out; omega)
      go_wp2_with fail
      refine (HLE.out w6 HB6.out).mono ?_
      rintro r w9 ⟨rfl, hb9⟩
      have HB9 := Lib.hid (HBW.out.trans ((HB6.out.trans (hb9.mono HB6.out.size)).mono HBW.out.size))
      clear hb9 HB6 HBW HLW HKW HATW HLE hsp
      obtain ⟨b, kv, vL, vH, hv, hO, la⟩ := HL.out.below HB9.out
      cases hv
      have HLA := Lib.hid la
      have HO := Shut.mk hO
      obtain ⟨gH, cH, rfl, -, hgl⟩ := la.ids.formB (by rw [allH_len]; exact Nat.succ_pos _)
      obtain ⟨n1, hn1⟩ : ∃ x, (allH L).length = x := ⟨_, rfl⟩
      have HN1 := Shut.mk hn1
      have HNN1 := Lib.hid (show n1 = n + 1 by rw [← hn1, allH_len, HN.out])
      rw [hn1] at HLA HO
      have HGL := Lib.hid hgl
      have HIDS := Lib.hid HLA.out.ids
      have HK9 := Lib.hid (HK.out.below HB9.out)
      have HATX := Lib.hid (HAT.out.below HB9.out)
      have h8 := two_le HLA.out.key.high
      rw [HP2.out] at h8
      have hnk : n ≤ 256 := by have := HNP.out; omega
      have hkk : k ≤ 256 := by omega
      have hn256 : n + k ≤ 256 := by have := HNP.out; omega
      have HBLT := Lib.hid HLA.out.cells.lt
      have HBGH := Lib.hid (show b ≠ gH from fun e => (HIDS.out.rows.row.notCells HLA.out.cells (by decide)) (by rw [e]; rfl))
      have HC3 := Lib.hid (fun (w' : World) (q : Only (fun x => x = gH) w9 w') => show w'.cell? ⟨b, 3, none⟩ = some (.slice (some ⟨gH, 0, none⟩) n1 cH) from (HLA.out.cells.only q HBGH.out).at 3)
      have HIX := Lib.hid (index_id16 gH n1 cH n (by rw [HNN1.out]; exact Nat.lt_succ_self n))
      have HFD := Lib.hid (fun w => field_logD3 b w)
      have HHS := Lib.hid (hashL_ok L n)
      have HRG := Lib.hid (fun (w' : World) (q : Below w9.heap.size w9 w') => show w'.rangeAt gH (n * 32) (nums .u8 (hashL L n)) from by
        have h1 := IAt.get ((HIDS.out.below q).at (allH_ok L)) (i := n) (by rw [HN1.out, HNN1.out]; exact Nat.lt_succ_self n)
        rw [allH_getD L (by rw [HN.out]; exact Nat.le_refl n), Nat.zero_add] at h1
        exact h1)
      have HSI := Lib.hid (show (Tryd.prog.info? 24).map (·.size) = some (hashL L n).length by rw [HHS.out.1]; exact Tryd.sizeI)
      have HAD := Lib.hid (show ∀ w, (binOp .add 3 (.int .i64 (n : Int)) (.int .i64 1)).run Tryd.prog w = .ok (.int .i64 ((n : Int) + 1)) w from fun w => by go_simp; rw [IntWalk.i64_left, IntWalk.wrap64_in _ (by omega)])
      have HWK := Lib.hid (fun (w' : World) (q : Below w9.heap.size w9 w') => dev_walk16 (hashL L n) ((n : Int) + 1) ao M c w' HHS.out (by omega) (by rw [HM.out]; omega) HMM.out (by rw [HM.out]; omega) (HATX.out.below q) (HK9.out.below q))
      rw [HM.out] at HWK
      have HEL := Shut.mk (show allH L ++ leadN (hashL L n) ((n : Int) + 1) M = allH (L ++ M) by rw [allH_app, HN.out, show 1 + (n : Int) = (n : Int) + 1 by omega])
      have HWL := Lib.hid (show (leadN (hashL L n) ((n : Int) + 1) M).length = k by rw [leadN_len, HM.out])
      have HWI := Lib.hid (show Ids (leadN (hashL L n) ((n : Int) + 1) M) from leadN_ok _ _ _)
      obtain ⟨W, hW⟩ : ∃ x, leadN (hashL L n) ((n : Int) + 1) M = x := ⟨_, rfl⟩
      rw [hW] at HWK HEL HWL HWI
      obtain ⟨hs, hhs⟩ : ∃ x, hashL L n = x := ⟨_, rfl⟩
      rw [hhs] at HRG HSI HWK
      clear hW hhs la hO hgl hn1 HL HAT HK hsq h8
      go_upto_region 12 with (fail)
      refine wp_region_free 19 (fun q V w' => Vals q V [(0, .pointer (some ⟨b, 0, none⟩)), (1, .pointer (some ⟨b, 0, none⟩)), (2, .pointer (some ⟨b, 0, none⟩)), (3, .pointer (some ⟨b, 3, none⟩)), (4, .slice (some ⟨gH, 0, none⟩) n1 cH), (5, .pointer (some ⟨b, 0, none⟩)), (6, .pointer (some ⟨b, 0, none⟩)), (7, .pointer (some ⟨b, 3, none⟩)), (8, .slice (some ⟨gH, 0, none⟩) n1 cH), (9, .int .i64 (n : Int)), (10, .pointer (some ⟨gH, n * 32, none⟩)), (12, .int .i64 (n : Int)), (13, .int .i64 ((n : Int) + 1)), (14, .slice ao k c), (17, .pointer (some ⟨b, 0, none⟩)), (18, .pointer (some ⟨b, 3, none⟩))] ∧ Only (fun x => x = gH) w9 w' ∧ Chain [11, 15, 16] (fun w' => Only (fun x => x = gH) w9 w') (AppM w9 gH hs W (allH (L ++ M))) q V w') (fun _ => undef) (by kernel_rfl) (by kernel_rfl) (by kernel_rfl) (by simp only [List.take_succ_cons, List.take_zero, putAll, Act.put, List.setIfInBounds_toArray, List.set_cons_zero, List.set_cons_succ]) ⟨Vals.none, Only.of (Below.refl _ _).drew, Chain.none (Only.of (Below.refl _ _).drew) (fun _ => (Below.refl _ _).drew)⟩ ?_ ?_
      · simp only [List.take_succ_cons, List.take_zero, putAll, Nat.zero_add, Nat.reduceAdd, Act.put, List.setIfInBounds_toArray, List.set_cons_zero, List.set_cons_succ]
        refine FreeSteps.cons ?_ (FreeSteps.cons ?_ (FreeSteps.cons ?_ (FreeSteps.cons ?_ (FreeSteps.cons ?_ (FreeSteps.cons ?_ (FreeSteps.cons ?_ (FreeSteps.cons ?_ (FreeSteps.cons ?_ (FreeSteps.cons ?_ (FreeSteps.cons ?_ (FreeSteps.cons ?_ (FreeSteps.cons ?_ (FreeSteps.cons ?_ (FreeSteps.cons ?_ (FreeSteps.cons ?_ (FreeSteps.cons ?_ (FreeSteps.cons ?_ (FreeSteps.cons ?_ (FreeSteps.nil)))))))))))))))))))
        all_goals (refine FreeStep.fresh rfl ?_; rintro q V wq hr hu ⟨hVs, hb, hch⟩ K hK)
        · exact op_move (.tmp 0) rfl _ rfl (hK _ _ ⟨hVs.set rfl, hb, hch.ne (by decide) (by decide)⟩)
        · exact op_move (.tmp 0) rfl _ rfl (hK _ _ ⟨hVs.set rfl, hb, hch.ne (by decide) (by decide)⟩)
        · exact op_nilCheck (.tmp 28) rfl ⟨b, 0, none⟩ (hVs.get 1 (hr { on := 1, ground := .data } (by simp) rfl) rfl) (hK _ _ ⟨hVs.set rfl, hb, hch.ne (by decide) (by decide)⟩)
        · exact op_fieldAt 102 (.tmp 29) 3 rfl _ _ (hVs.get 2 (hr { on := 2, ground := .data } (by simp) rfl) rfl) HFD.out (hK _ _ ⟨hVs.set rfl, hb, hch.ne (by decide) (by decide)⟩)
        · exact op_load_cell 29 (.tmp 30) rfl _ _ (hVs.get 3 (hr { on := 3, ground := .data } (by simp) rfl) rfl) (HC3.out wq hb) Tryd.isAgg29 (hK _ _ ⟨hVs.set rfl, hb, hch.ne (by decide) (by decide)⟩)
        · exact op_move (.tmp 0) rfl _ rfl (hK _ _ ⟨hVs.set rfl, hb, hch.ne (by decide) (by decide)⟩)
        · exact op_nilCheck (.tmp 32) rfl ⟨b, 0, none⟩ (hVs.get 5 (hr { on := 5, ground := .data } (by simp) rfl) rfl) (hK _ _ ⟨hVs.set rfl, hb, hch.ne (by decide) (by decide)⟩)
        · exact op_fieldAt 102 (.tmp 33) 3 rfl _ _ (hVs.get 6 (hr { on := 6, ground := .data } (by simp) rfl) rfl) HFD.out (hK _ _ ⟨hVs.set rfl, hb, hch.ne (by decide) (by decide)⟩)
        · exact op_load_cell 29 (.tmp 34) rfl _ _ (hVs.get 7 (hr { on := 7, ground := .data } (by simp) rfl) rfl) (HC3.out wq hb) Tryd.isAgg29 (hK _ _ ⟨hVs.set rfl, hb, hch.ne (by decide) (by decide)⟩)
        · exact op_move (.tmp 7) rfl _ rfl (hK _ _ ⟨hVs.set rfl, hb, hch.ne (by decide) (by decide)⟩)
        · exact op_indexAt 29 (.tmp 35) (.tmp 36) rfl _ (.int .i64 (n : Int)) _ (hVs.get 8 (hr { on := 8, ground := .data } (by simp) rfl) rfl) (hVs.get 9 (hr { on := 9, ground := .data } (by simp) rfl) rfl) HIX.out (hK _ _ ⟨hVs.set rfl, hb, hch.ne (by decide) (by decide)⟩)
        · have hm : Below w9.heap.size w9 wq := hch.at 0 (by decide) hu (.inl rfl)
          refine op_load_id 24 (.tmp 37) rfl gH (n * 32) hs _ (hVs.get 10 (hr { on := 10, ground := .data } (by simp) rfl) rfl) (HRG.out wq hm) Tryd.underlying24 rfl HSI.out ?_
          have hc1 := hch.step (v := .agg (nums .u8 hs).toArray) 0 (by decide) (by decide) hu (.inl rfl) hb ⟨rfl, hm⟩
          exact (hK _ _ ⟨hVs.off rfl, hb, hc1⟩)
        · exact op_move (.tmp 7) rfl _ rfl (hK _ _ ⟨hVs.set rfl, hb, hch.ne (by decide) (by decide)⟩)
        · exact op_bin .add 3 3 (.tmp 39) _ rfl _ _ _ (hVs.get 12 (hr { on := 12, ground := .data } (by simp) rfl) rfl) rfl (fun w => rfl) HAD.out (hK _ _ ⟨hVs.set rfl, hb, hch.ne (by decide) (by decide)⟩)
        · exact op_move (.tmp 1) rfl _ rfl (hK _ _ ⟨hVs.set rfl, hb, hch.ne (by decide) (by decide)⟩)
        · obtain ⟨hv1, hm⟩ : AppM w9 gH hs W (allH (L ++ M)) 1 (V 11) wq := hch.at 1 (by decide) hu (.inr (hr { on := 11, ground := .data } (by simp) rfl))
          refine op_call Tryd.func10 rfl rfl rfl [.agg (nums .u8 hs).toArray, .int .i64 ((n : Int) + 1), .slice ao k c] (cons_eq hv1 (cons_eq (hVs.get 13 (hr { on := 13, ground := .data } (by simp) rfl) rfl) (cons_eq (hVs.get 14 (hr { on := 14, ground := .data } (by simp) rfl) rfl) rfl))) (HWK.out wq hm) ?_
          rintro e w' ⟨⟨u, rfl, hrow⟩, hb'⟩
          have hbn : Below w9.heap.size w9 w' := hm.trans (hb'.mono hm.size)
          have hc2 := hch.step (v := u) 1 (by decide) (by decide) hu (.inr (hr { on := 11, ground := .data } (by simp) rfl)) (Only.of hbn) ⟨hrow.mono hm.size, hbn⟩
          exact ⟨_, rfl, (hK _ _ ⟨hVs.off rfl, Only.of hbn, hc2⟩)⟩
        · obtain ⟨hrow, hm⟩ : AppM w9 gH hs W (allH (L ++ M)) 2 (V 15) wq := hch.at 2 (by decide) hu (.inr (hr { on := 15, ground := .data } (by simp) rfl))
          refine op_push_ids rfl (.tmp 31) (.tmp 42) rfl 0 w9.heap.size (.slice (some ⟨gH, 0, none⟩) n1 cH) (V 15) (allH L) W HWI.out (hVs.get 4 (hr { on := 4, ground := .data } (by simp) rfl) rfl) (HIDS.out.below hm) rfl hrow (by rw [HN1.out, HNN1.out, HWL.out]; omega) (Nat.zero_le _) ?_
          intro v' w' ho' hg' hd'
          rw [HEL.out] at ho'
          have hbn : Only (fun x => x = gH) w9 w' := (Only.of (O := fun x => x = gH) hm).grown hg' (fun z hz => by cases hz; exact .inl rfl)
          have hc3 := hch.step (v := v') 2 (by decide) (by decide) hu (.inr (hr { on := 15, ground := .data } (by simp) rfl)) hbn ⟨ho', fun z hz => by
            rcases hd' with e | e
            · rw [hz] at e; cases e; exact .inl rfl
            · rw [hz] at e; cases e; exact .inr hm.size⟩
          exact (hK _ _ ⟨hVs.off rfl, hbn, hc3⟩)
        · exact op_nilCheck (.tmp 27) rfl ⟨b, 0, none⟩ (hVs.get 0 (hr { on := 0, ground := .data } (by simp) rfl) rfl) (hK _ _ ⟨hVs.set rfl, hb, hch.ne (by decide) (by decide)⟩)
        · exact op_fieldAt 102 (.tmp 44) 3 rfl _ _ (hVs.get 17 (hr { on := 17, ground := .data } (by simp) rfl) rfl) HFD.out (hK _ _ ⟨hVs.set rfl, hb, hch.ne (by decide) (by decide)⟩)
      rintro q V wq hall ⟨hVs, hb, hch⟩
      have v0 := hVs.get 0 (hall 0 (by decide)) rfl
      have v1 := hVs.get 1 (hall 1 (by decide)) rfl
      have v2 := hVs.get 2 (hall 2 (by decide)) rfl
      have v3 := hVs.get 3 (hall 3 (by decide)) rfl
      have v4 := hVs.get 4 (hall 4 (by decide)) rfl
      have v5 := hVs.get 5 (hall 5 (by decide)) rfl
      have v6 := hVs.get 6 (hall 6 (by decide)) rfl
      have v7 := hVs.get 7 (hall 7 (by decide)) rfl
      have v8 := hVs.get 8 (hall 8 (by decide)) rfl
      have v9 := hVs.get 9 (hall 9 (by decide)) rfl
      have v10 := hVs.get 10 (hall 10 (by decide)) rfl
      obtain ⟨u11, v11⟩ : ∃ v, V 11 = v := ⟨_, rfl⟩
      have v12 := hVs.get 12 (hall 12 (by decide)) rfl
      have v13 := hVs.get 13 (hall 13 (by decide)) rfl
      have v14 := hVs.get 14 (hall 14 (by decide)) rfl
      obtain ⟨u15, v15⟩ : ∃ v, V 15 = v := ⟨_, rfl⟩
      obtain ⟨u16, v16⟩ : ∃ v, V 16 = v := ⟨_, rfl⟩
      have v17 := hVs.get 17 (hall 17 (by decide)) rfl
      have v18 := hVs.get 18 (hall 18 (by decide)) rfl
      obtain ⟨hrow, hnew⟩ : AppM w9 gH hs W (allH (L ++ M)) 3 (V 16) wq := hch.fin (fun p hp => by match p, hp with | 0, _ => exact hall 11 (by decide) | 1, _ => exact hall 15 (by decide) | 2, _ => exact hall 16 (by decide))
      rw [v16] at hrow hnew
      simp only [List.take_succ_cons, List.take_zero, List.drop_succ_cons, List.drop_zero, putAll, Nat.zero_add, Nat.reduceAdd, v0, v1, v2, v3, v4, v5, v6, v7, v8, v9, v10, v11, v12, v13, v14, v15, v16, v17, v18, Act.put, List.setIfInBounds_toArray, List.set_cons_zero, List.set_cons_succ]
      clear hVs v0 v1 v2 v3 v4 v5 v6 v7 v8 v9 v10 v11 v12 v13 v14 v15 v16 v17 v18 hall
      obtain ⟨a4, c4, hu⟩ := hrow.form
      obtain ⟨n2, hn2⟩ : ∃ x, (allH (L ++ M)).length = x := ⟨_, rfl⟩
      rw [hn2] at hu
      subst hu
      have HROW := Lib.hid hrow
      have HNEW := Lib.hid hnew
      have HON := Lib.hid hb
      have hcs := HLA.out.cells.only hb HBGH.out
      have HCS := Lib.hid hcs
      have cf := HC3.out wq hb
      have ff := hcs.frozen 3
      clear hch hrow hb hnew hcs hn2 HC3 HIX HFD HRG HSI HAD HWK HEL
      go_upto_region 13 with (fail)
      obtain ⟨wx, hwx⟩ : ∃ x, x = wq.setCell ⟨b, 3, none⟩ (.slice (some ⟨gH, 0, none⟩) n1 cH) := ⟨_, rfl⟩
      clear hwx wx
      have hbelow : ∀ x, (x = gH ∨ x = b) → O x := fun x hx => by
        rw [HO.out]
        rcases hx with rfl | rfl
        · exact .inr (.inr rfl)
        · exact .inl rfl
      have hon10 : Only (fun x => x = gH ∨ x = b) w9 (wq.setCell ⟨b, 3, none⟩ (.slice a4 n2 c4)) := Only.setCell ⟨HON.out.os, HON.out.tape, HON.out.output, HON.out.size, fun k hk hn => HON.out.block k hk (fun e => hn (.inl e))⟩ 3 _ (.inl (.inr rfl))
      have hc10 := HCS.out.set 3 (.slice a4 n2 c4)
      have hr10 : OwnI 0 24 (.slice a4 n2 c4) (allH (L ++ M)) (wq.setCell ⟨b, 3, none⟩ (.slice a4 n2 c4)) := HROW.out.only16 (P := fun x => x = b) ((Only.refl _ wq).setCell 3 _ (.inl rfl)) (fun z hz e => HROW.out.rows.row.notCells HCS.out (by decide) (e ▸ hz))
      obtain ⟨w10, hw10⟩ : ∃ x, x = wq.setCell ⟨b, 3, none⟩ (.slice a4 n2 c4) := ⟨_, rfl⟩
      rw [← hw10] at hon10 hc10 hr10 ⊢
      clear hw10 cf ff
      have HR10 := Lib.hid hr10
      have HC10 := Lib.hid hc10
      have HON10 := Lib.hid hon10
      have hat10 : EntsAt ao M w10 := by
        rcases HATX.out with h0 | ⟨bb, oo, ha, hlt, hc⟩
        · exact .inl h0
        · by_cases hM0 : M = []
          · exact .inl (by rw [hM0]; rfl)
          · exact .inr ⟨bb, oo, ha, Nat.lt_of_lt_of_le hlt hon10.size, fun i c hc' j v hv => (World.cell?_of_block (w := w9) (a := ⟨bb, oo + i * 73 + j, none⟩) (hon10.block bb hlt (fun e => HAP.out hM0 _ ha (hbelow bb e)))).trans (hc i c hc' j v hv)⟩
      have HAT10 := Lib.hid hat10
      obtain ⟨aL, cL, rfl⟩ := HLA.out.ents.form
      have HPL := Lib.hid (show ∀ z, (Value.slice aL L.length cL).ownBlock = some z → z ≠ gH ∧ z ≠ b from fun z hz => ⟨fun e => rows_apart HLA.out.ents.1.row HIDS.out.rows.row (by decide) hz (by rw [e]; rfl), fun e => HLA.out.ents.1.row.notCells HLA.out.cells (by decide) (e ▸ hz)⟩)
      have HE10 := Lib.hid (HLA.out.ents.1.only hon10 (fun z hz e => by
        rcases e with e | e
        · exact (HPL.out z hz).1 e
        · exact (HPL.out z hz).2 e))
      have HEOK := Lib.hid HLA.out.ents.2
      have c2 : w10.cell? ⟨b, 2, none⟩ = some (.slice aL n cL) := by
        rw [← HN.out]
        exact hc10.at 2
      obtain ⟨bytes, hby, hinfo⟩ := Tryd.infoE73
      have HBY := Lib.hid hby
      have HIN := Lib.hid hinfo
      have HBGL := Lib.hid (show ∀ z, (Value.slice aL n cL).ownBlock = some z → z ≠ gH ∧ z ≠ b from fun z hz => HPL.out z (by rw [HN.out]; exact hz))
      have HE10n := Lib.hid (show OwnR 0 73 35 (.slice aL n cL) (L.map entL) w10 from by rw [← HN.out]; exact HE10.out)
      clear hby hinfo hon10 hc10 hr10 hat10
      go_wp2_with (refine wpList_append_rowsv rfl _ _ 23 35 rfl 0 73 bytes _ rfl (by decide) HBY.out Tryd.underlying23 HIN.out (.slice aL n cL) (L.map entL) (M.map entL) (wide_map fun x hx => entL_len (HMM.out x hx).1.ok) flat_one ao k c (by rw [List.length_map, HM.out]) rfl HE10n.out rfl HAT10.out HNL.out (by rw [List.length_map, List.length_map, HN.out, HM.out]; omega) (Nat.zero_le _) ?_)
      intro v11 w11 ho hg hd
      obtain ⟨a5, c5, hu5⟩ := ho.out.form
      obtain ⟨n5, hn5⟩ : ∃ x, (L.map entL ++ M.map entL).length = x := ⟨_, rfl⟩
      rw [hn5] at hu5
      subst hu5
      clear hn5
      have HO11 := Lib.hid ho.out
      have HG11 := Lib.hid hg.out
      have HD11 := Lib.hid hd.out
      have hc11 : Cells b 102 _ w11 := HC10.out.only ((Only.refl (fun x => (Value.slice aL n cL).ownBlock = some x) w10).grown hg.out (fun _ h => .inl h)) (fun e => (HBGL.out b e).2 rfl)
      have HC11 := Lib.hid hc11
      have cf : w11.cell? ⟨b, 2, none⟩ = some (.slice aL n cL) := by
        rw [← HN.out]
        exact hc11.at 2
      have ff := hc11.frozen 2
      clear ho hg hd hc11 c2
      go_wp2_with fail
      go_ret
      have hc12 := HC11.out.set 2 (.slice a5 n5 c5)
      have ho12 : OwnR 0 73 35 (.slice a5 n5 c5) (L.map entL ++ M.map entL) (w11.setCell ⟨b, 2, none⟩ (.slice a5 n5 c5)) := HO11.out.only (O := fun x => x = b) ((Only.refl _ w11).setCell 2 _ (.inl rfl)) (fun z hz e => HO11.out.row.notCells HC11.out (by decide) (e ▸ hz))
      have hon11 : Only (fun x => x = gH ∨ x = b ∨ (Value.slice aL n cL).ownBlock = some x) w9 w11 := Only.grown ⟨HON10.out.os, HON10.out.tape, HON10.out.output, HON10.out.size, fun k hk hn => HON10.out.block k hk (fun e => hn (e.elim .inl (fun e => .inr (.inl e))))⟩ HG11.out (fun z hz => .inl (.inr (.inr hz)))
      have hon12 : Only (fun x => x = gH ∨ x = b ∨ (Value.slice aL n cL).ownBlock = some x) w9 (w11.setCell ⟨b, 2, none⟩ (.slice a5 n5 c5)) := hon11.setCell 2 _ (.inl (.inr (.inl rfl)))
      have hPO : ∀ x, (x = gH ∨ x = b ∨ (Value.slice aL n cL).ownBlock = some x) → O x := fun x hx => by
        rw [HO.out]
        rcases hx with hx | hx | hx
        · exact .inr (.inr (by rw [hx]; rfl))
        · exact .inl hx
        · exact .inr (.inl (by rw [HN.out]; exact hx))
      have hON : ∀ x, O x → N ≤ x := fun x hx => HLA.out.late x (by rw [← HO.out]; exact hx)
      have hN9 : N ≤ w9.heap.size := Nat.le_of_lt (Nat.lt_of_le_of_lt (hON b (hPO b (.inr (.inl rfl)))) HBLT.out)
      have hid12 : OwnI 0 24 (.slice a4 n2 c4) (allH (L ++ M)) (w11.setCell ⟨b, 2, none⟩ (.slice a5 n5 c5)) := HR10.out.only16 (P := fun x => (Value.slice aL n cL).ownBlock = some x ∨ x = b) (((Only.refl _ w10).grown HG11.out (fun z hz => .inl (.inl hz))).setCell 2 _ (.inl (.inr rfl))) (fun z hz e => by
        rcases e with e | e
        · exact rows_apart HE10n.out.row HR10.out.rows.row (by decide) e hz
        · exact HR10.out.rows.row.notCells HC10.out (by decide) (e ▸ hz))
      have hown : ∀ x, logO b (.slice a5 n5 c5) (.slice a4 n2 c4) x → O x ∨ w9.heap.size ≤ x := fun x hx => by
        rcases hx with hx | hx | hx
        · exact .inl (hPO x (.inr (.inl hx)))
        · rcases HD11.out with e | e
          · exact .inl (hPO x (.inr (.inr (by rw [← e]; exact hx))))
          · rw [hx] at e
            cases e
            exact .inr HON10.out.size
        · rcases HNEW.out x hx with e | e
          · exact .inl (hPO x (.inl e))
          · exact .inr e
      obtain ⟨w0, h00, hk0, hb0⟩ := HLA.out.keys
      refine ⟨by rw [HA.out]; rfl, logO b (.slice a5 n5 c5) (.slice a4 n2 c4), ⟨b, kv, _, _, rfl, rfl, ?_⟩, ?_⟩
      · rw [HAL.out]
        refine ⟨hc12, ⟨by rw [List.map_append]; exact ho12, fun x hx => ?_⟩, hid12, ⟨w0, h00, hk0, Only.toBelow hb0 hon12 (fun x hx => Nat.le_trans h00 (hON x (hPO x hx))) hb0.size⟩, fun x hx => ?_, by rw [List.length_append, HN.out, HM.out, HP2.out]; exact HSP.out, HLA.out.node⟩
        · rcases List.mem_append.1 hx with hx | hx
          · exact HEOK.out x hx
          · exact (HMM.out x hx).1.ok
        · rcases hown x hx with e | e
          · exact hON x e
          · exact Nat.le_trans hN9 e
      · refine ⟨Only.trans (Only.of (O := O) HB9.out) (O' := O) ⟨hon12.os, hon12.tape, hon12.output, hon12.size, fun k hk hn => hon12.block k hk (fun e => hn (hPO k e))⟩ (fun _ h => .inl h), fun x hx => ?_⟩
        rcases hown x hx with e | e
        · exact .inl e
        · exact .inr (Nat.le_trans HB9.out.size e)
end Go.Proofs.YtpfhlhcnmeodbaaDoor
namespace Go.Proofs.YtpfhlhcnmeodbaaDoor
open Go.RowKit Go.BigFrame
theorem built_out16 : Tryd.prog.built 35 [(0, .int .i64 3), (5, .int .i64 1)] = some (entV (outE 1 [])) := by
  rw [ent_fill, fill_kind, fill_mask (ha := ⟨zeroI_ok, zeroI_ok⟩), fill_end]
  rfl
theorem wpList_build_wide_want {P : Program} {w : World} {ops : Array Oper} {rest : List Oper} {o : Oper} {a : Act} {Q : Exit → Act → World → Prop} (hw : Region.wanted o (yielded ops a.tmps) = true) (t e : TypeId) (x : Operand) (ho : o.op = .buildSlice t 1 #[(0, x)]) (us : List Value) (hx : a.eval x = .agg us.toArray)
    (hr : ∀ w, (Instr.buildSlice t 1 #[(0, .agg us.toArray)]).run P w = .ok (.slice (some ⟨w.heap.size, 0, none⟩) 1 1) (w.alloc (.cells us.toArray e)))
    (h : ∀ w', Hid (Cells w.heap.size e us.toArray w') → Hid (Below w.heap.size w w') → wpList P ops Q rest (a.put o.dst (.slice (some ⟨w.heap.size, 0, none⟩) 1 1)) w') : wpList P ops Q (o :: rest) a w :=
  BigFrame.wpList_want hw fun _ hK => (show OpWp P { o with guard := none } a w _ _ from op_build_wide (o := { o with guard := none }) t e x ho us hx hr (hK _ _ (h _ (Lib.hid (heap_alloc_new w _)) (Lib.hid ((Below.refl _ _).alloc (Nat.le_refl _) _))))).out
theorem alive16_app : appE 1 [] [outE 1 []] = 0 := by
  rw [appE, if_pos, if_pos (by decide)]
  intro x hx
  obtain rfl := List.mem_singleton.1 hx
  exact .inr (.inr ⟨rfl, ⟨by decide, by decide, by decide⟩, rfl, rfl, rfl, rfl, rfl⟩)
set_option maxHeartbeats 4000000 in
set_option maxRecDepth 100000 in
theorem alive16_any (w : World) (hk : KAt w) : Calls Tryd.prog 8 #[] w fun e w' => e = .returned (.bool true) ∧ Below w.heap.size w w' := by
  have HK := Lib.hid hk
  have HG := Lib.hid hk.lt
  clear hk
  have HZ := Lib.hid (show (Tryd.prog.info? 26).bind (·.zero) = some (.agg (autL noA).toArray) by kernel_rfl)
  have HS := Lib.hid (sizeAV (a := noA) zeroI_ok)
  go_enter Tryd.func8, Tryd.ntmps8
  go_wp2_with fail
  refine (dev_new [115, 101, 101, 100] 1 w (by decide) (by decide) (by decide) HK.out).mono ?_
  rintro e w1 ⟨⟨kv, rfl, hv⟩, hb1⟩
  obtain ⟨ka, rfl⟩ := hv.ptr
  have HV := Lib.hid hv
  have HB1 := Lib.hid hb1
  have HK1 := Lib.hid (HK.out.below hb1)
  clear hv hb1
  go_wp2_with fail
  refine (dev_newLog 0 _ [115, 101, 101, 100] 1 w1 HV.out (by decide) (by decide)).mono ?_
  rintro e w2 ⟨⟨v, O, rfl, hl, hO⟩, hb2⟩
  obtain ⟨a, rfl⟩ := hl.ptr
  have HL2 := Lib.hid hl
  have HB2 := Lib.hid (HB1.out.trans (hb2.mono HB1.out.size))
  have HW1 := Lib.hid HB1.out.size
  clear hl hO hb2 HV HB1
  go_wp2_with fail
  refine (dev_authNone 1 w2 HL2.out (.inr (by decide))).mono ?_
  rintro e w3 ⟨rfl, hb3⟩
  have HL3 := Lib.hid (HL2.out.below hb3)
  have HB3 := Lib.hid (HB2.out.trans (hb3.mono HB2.out.size))
  clear hb3 HL2 HB2
  go_wp2_with (first
    | (refine wpList_alloc_of rfl 26 rfl (autL noA) HZ.out ?_)
    | (refine wpList_store_cells rfl 26 _ _ rfl rfl w3.heap.size (autV noA) (autV noA) 26 rfl rfl (heap_alloc_new w3 _) HS.out rfl (autV_all noA) ?_))
  intro w4 hc4 hb4
  have hb44 : Below w3.heap.size w3 w4 := But.toBelow ((Below.refl _ w3).alloc (Nat.le_refl _) _) hb4.out (Nat.le_refl _) (by rw [World.size_alloc]; exact Nat.le_succ _)
  have HL4 := Lib.hid (HL3.out.below hb44)
  have HB4 := Lib.hid (HB3.out.trans (hb44.mono HB3.out.size))
  clear hc4 hb4 hb44 HL3 HB3
  go_wp2_with fail
  refine (dev_left w4 HL4.out (by decide)).mono ?_
  rintro e w5 ⟨rfl, hb5⟩
  rw [show (((2 ^ 1 - ([] : List EntN).length : Nat)) : Int) = 2 from rfl]
  have HL5 := Lib.hid (HL4.out.below hb5)
  have HB5 := Lib.hid (HB4.out.trans (hb5.mono HB4.out.size))
  clear hb5 HL4 HB4
  have HBE := Lib.hid (fun w' => built_ent1 (outE 1 []) (outE_ok 1 []) w')
  go_wp2_with (first
    | (refine wpList_build_want (by rfl) 35 _ rfl [(0, .int .i64 3), (5, .int .i64 1)] _ (by rw [List.map_toArray]; rfl) built_out16 ?_)
    | (refine wpList_build_wide_want (by rfl) 23 35 _ rfl (entL (outE 1 [])) rfl HBE.out ?_))
  intro w6 hc6 hb6
  have HL6 := Lib.hid (HL5.out.below hb6.out)
  have HB6 := Lib.hid (HB5.out.trans (hb6.out.mono HB5.out.size))
  have HC6 := Lib.hid hc6.out
  have HK6 := Lib.hid (HK.out.below HB6.out)
  have HAP := Lib.hid (dev_append (some ⟨w5.heap.size, 0, none⟩) [outE 1 []] 1 w6 HL6.out (by decide) (fun x hx => by cases hx) (fun x hx => by
    obtain rfl := List.mem_singleton.1 hx
    exact ⟨⟨outE_ok 1 [], by decide, by decide, by decide, by decide⟩, by decide⟩) (by decide) (.inr ⟨w5.heap.size, 0, rfl, HC6.out.lt, fun i c hc => by
      have hi : i = 0 := by
        have := (List.getElem?_eq_some_iff.1 hc).1
        simpa using this
      subst hi
      obtain rfl : entL (outE 1 []) = c := by simpa using hc
      simpa using cells_range HC6.out⟩) (fun h => by cases h) (fun _ a ha => by
        cases ha
        intro hO
        exact Nat.lt_irrefl _ (HL5.out.lt _ hO)) HK6.out (Nat.lt_of_lt_of_le HG.out HW1.out))
  rw [show appL 1 [] [outE 1 []] = [outE 1 []] by rw [appL, if_pos alive16_app]; rfl, alive16_app] at HAP
  have HLATE := Lib.hid (fun x hx => Nat.le_trans HW1.out (HL6.out.late x hx))
  clear hc6 hb6 HL5 HB5 HBE
  go_wp2_with fail
  refine HAP.out.mono ?_
  rintro e w7 ⟨rfl, O', hl7, ht7⟩
  have HL7 := Lib.hid hl7
  have HB7 := Lib.hid (Only.toBelow HB6.out ht7.only HLATE.out HB6.out.size)
  clear hl7 ht7 HAP HL6 HB6 HLATE
  go_wp2_with fail
  refine (dev_len w7 HL7.out).mono ?_
  rintro e w8 ⟨rfl, hb8⟩
  rw [show (([outE 1 []] : List EntN).length : Int) = 1 from rfl]
  have HB8 := Lib.hid (HB7.out.trans (hb8.mono HB7.out.size))
  clear hb8 HL7 HB7
  go_wp2_with fail
  go_ret
  exact ⟨rfl, HB8.out⟩
end Go.Proofs.YtpfhlhcnmeodbaaDoor
namespace Go.Proofs.YtpfhlhcnmeodbaaDoor
open Go.RowKit Go.BigFrame
theorem ref_num16 (n : Int) (w : World) (h2 : n ≤ 9223372036854775807) :
    Calls Tryd.prog 44 #[.int .i64 n] w fun e w' => e = .returned (.string ⟨(numB n.toNat).toArray⟩) ∧ Below w.heap.size w w' := by
  by_cases h0 : n < 0
  · have HN := Lib.hid (rnumref_any 0 w (by decide))
    have HE := Shut.mk (show n.toNat = 0 by omega)
    go_enter Tryd.func44, Tryd.ntmps44
    go_wp2_with fail
    refine HN.out.mono ?_
    rintro e w1 ⟨rfl, hb⟩
    have HB := Lib.hid hb
    clear hb
    go_wp2_with fail
    go_ret
    exact ⟨by rw [HE.out]; rfl, HB.out⟩
  · obtain ⟨m, rfl⟩ := Int.eq_ofNat_of_zero_le (show 0 ≤ n by omega)
    have HN := Lib.hid (rnumref_any m w (by omega))
    have hnl : ¬ (m : Int) < 0 := h0
    go_enter Tryd.func44, Tryd.ntmps44
    go_wp2_with fail
    refine HN.out.mono ?_
    rintro e w1 ⟨rfl, hb⟩
    have HB := Lib.hid hb
    clear hb
    go_wp2_with fail
    go_ret
    exact ⟨by rw [Int.toNat_natCast]; rfl, HB.out⟩
set_option maxHeartbeats 4000000 in
set_option maxRecDepth 100000 in
theorem ref_word (n i : Int) (h : List Nat) (hn : n ≤ 9223372036854775807) (hi : i ≤ 9223372036854775807) (hh : IdOk h) (w : World) :
    Calls Tryd.prog 18 #[.int .i64 n, .int .i64 i, .agg (nums .u8 h).toArray] w fun r w' => r = .returned (.string ⟨(wordB n i h).toArray⟩) ∧ Below w.heap.size w w' := by
  have hx1 : Cells w.heap.size 24 (nums .u8 h).toArray (w.alloc (.cells (nums .u8 h).toArray 24)) := heap_alloc_new w _
  have HX1 := Lib.hid hx1
  have HB := Lib.hid (show Below w.heap.size w (w.alloc (.cells (nums .u8 h).toArray 24)) from (Below.refl _ _).alloc (Nat.le_refl _) _)
  have HH := Lib.hid hh
  have HLEN := Lib.hid (wordB_len hn hi hh)
  have HN := Lib.hid (fun w' => ref_num16 n w' hn)
  have HI := Lib.hid (fun w' => ref_num16 i w' hi)
  clear hx1 hh
  go_enter Tryd.func18, Tryd.ntmps18
  go_upto_region 1 with (fail)
  obtain ⟨w1, hw1⟩ : ∃ x, x = w.alloc (.cells (nums .u8 h).toArray 24) := ⟨_, rfl⟩
  rw [← hw1] at HX1 HB ⊢
  clear hw1
  have HC3 := Lib.hid (fun (w' : World) (q : Below w1.heap.size w1 w') => conv_mid (P := Tryd.prog) (src := 73) (dst := 9) (c := 32) Tryd.underlying73 Tryd.underlying5 Tryd.underlying9 HH.out.1.symm HH.out.2 (rangeAt_belowI (cells_range HX1.out) q HX1.out.lt))
  refine wp_region_class_tail (fun w' => Below w1.heap.size w1 w') 6 (by kernel_rfl) (by kernel_rfl) (Below.refl _ _).drew ?_
  simp only [List.take_succ_cons, List.take_zero, List.drop_succ_cons, List.drop_zero]
  repeat (first
    | (go_big_quiet_want; refine quiet_conv 73 9 _ rfl (.slice (some ⟨w.heap.size, 0, none⟩) 32 32) _ rfl HC3.out ?_; go_big_quiet_on; simp only [Act.put, List.setIfInBounds_toArray, List.set_cons_zero, List.set_cons_succ])
    | go_big_quiet_step ((intro hs'; first
        | (go_at_call_of 44 (Value.int .i64 n); exact (HN.out _).mono fun e w' h => ⟨h.1, hs'.trans (h.2.mono hs'.size)⟩)
        | (go_at_call_of 44 (Value.int .i64 i); exact (HI.out _).mono fun e w' h => ⟨h.1, hs'.trans (h.2.mono hs'.size)⟩)
        | rfl)))
  refine wpQuiet_nil ?_
  intro w2 hs2
  have HB2 := Lib.hid (HB.out.trans (hs2.mono HB.out.size))
  clear hs2 HX1 HB HC3 HN HI
  go_wp2_with fail
  refine (rlistref_any (some ⟨w2.heap.size, 0, none⟩) 4 [[119, 111, 114, 100], numB n.toNat, numB i.toNat, txt h] _ (at_four9 w2 _ _ _ _) (by simp) (by have := HLEN.out; rw [wordB] at this; omega)).mono ?_
  rintro e w3 ⟨rfl, hb⟩
  have HB3 := Lib.hid (HB2.out.trans (((Below.refl _ w2).alloc (Nat.le_refl _) _).trans (hb.mono (by simp)) |>.mono HB2.out.size))
  clear hb HB2
  go_wp2_with fail
  go_ret
  exact ⟨rfl, HB3.out⟩
end Go.Proofs.YtpfhlhcnmeodbaaDoor
namespace Go.Proofs.YtpfhlhcnmeodbaaDoor
open Go.RowKit Go.BigFrame
open Go.RowKit Go.BigFrame
theorem part_at (s : List UInt8) (k q : Nat) (hq : q < 16) (hk : 16 * k + 16 ≤ s.length) : (byteNs (part s k)).getD q 0 = (s[16 * k + q]'(by omega)).toNat := by
  have h1 : q < ((s.drop (16 * k)).take 16).length := by simp; omega
  rw [byteNs, part, List.getD_eq_getElem?_getD, List.getElem?_map, List.getElem?_eq_getElem h1]
  simp
theorem run_part_at {P : Program} (t : TypeId) (h : P.underlying t = some .string) (s : List UInt8) (k q : Nat) (hq : q < 16) (hk : 16 * k + 16 ≤ s.length) (w : World) :
    (Instr.index t (.string ⟨s.toArray⟩) (.int .i64 (16 * (k : Int) + (q : Int)))).run P w = .ok (.int .u8 (((byteNs (part s k)).getD q 0 : Nat) : Int)) w := by
  have e : (⟨s.toArray⟩ : ByteArray).size = s.length := by simp [ByteArray.size]
  rw [run_index_string (P := P) w t _ .i64 _ h, dif_pos ⟨by omega, by rw [e]; omega⟩, part_at s k q hq hk]
  have e2 : (16 * (k : Int) + (q : Int)).toNat = 16 * k + q := by omega
  simp only [e2]
  rfl
set_option maxHeartbeats 1000000 in
set_option maxRecDepth 100000 in
theorem ref_meet (sig : List UInt8) (i : Int) (d : List Nat) (w : World) (hs : sig.length = 560) (hi0 : -9223372036854775808 ≤ i) (hi : i ≤ 9223372036854775807) (hd : d.length = 16) (ld : ∀ y ∈ d, y < 256) :
    Calls Tryd.prog 80 #[.string ⟨sig.toArray⟩, .int .i64 i, .agg (nums .u8 d).toArray] w fun e w' => e = .returned (.tuple #[.agg (nums .u8 (meetN sig i d)).toArray, .bool true]) ∧ Below w.heap.size w w' := by
  have HS := Lib.hid hs
  have HD := Lib.hid hd
  have LD := Lib.hid ld
  have HI0 := Lib.hid hi0
  have HI1 := Lib.hid hi
  clear hs hi0 hi hd ld
  go_enter Tryd.func80, Tryd.ntmps80
  go_upto_region 1 with (fail)
  change Code.wp _ _ _ _ ((w.alloc (.cells (nums .u8 d).toArray 61)).alloc (.cells (nums .u8 (List.replicate 16 0)).toArray 61))
  obtain ⟨w1, hw1⟩ : ∃ x', x' = (w.alloc (.cells (nums .u8 d).toArray 61)).alloc (.cells (nums .u8 (List.replicate 16 0)).toArray 61) := ⟨_, rfl⟩
  rw [← hw1]
  have h3 : Blk w.heap.size 61 .u8 d w1 ∧ Blk (w.heap.size + 1) 61 .u8 (List.replicate 16 0) w1 ∧ Below w.heap.size w w1 := by rw [hw1]; exact two_new w _ _ _ _
  obtain ⟨hx1, hr1, hb1⟩ := h3
  have HD1 := Lib.hid hx1
  have HR1 := Lib.hid hr1
  have HB1 := Lib.hid hb1
  have HI := Lib.hid (show (Tryd.prog.info? 61).map (·.size) = some d.length by rw [HD.out]; exact Tryd.infoE)
  obtain ⟨gr, hgr⟩ : ∃ g, g = w.heap.size + 1 := ⟨_, rfl⟩
  rw [← hgr] at HR1 ⊢
  have HGR := Lib.hid hgr
  clear hx1 hr1 hb1 hw1 hgr
  have hlen := HS.out
  go_wp2_with (refine wpList_load_nums rfl 61 _ rfl w.heap.size .u8 _ 61 _ rfl HD1.out Tryd.underlying61 rfl HI.out ?_)
  refine (ref_digits d _ HD.out LD.out).mono ?_
  rintro e w2 ⟨ao, cp, rfl, ho, hb2⟩
  obtain ⟨g, c2, hv, hg1, hg2⟩ := ho.formB (by rw [digN_len HD.out]; decide)
  obtain rfl : ao = some ⟨g, 0, none⟩ := by injection hv
  have HO2 := Lib.hid ho
  have HB2 := Lib.hid (HB1.out.trans (hb2.mono HB1.out.size))
  have HR2 := Lib.hid (HR1.out.below hb2)
  have HDL := Lib.hid (digN_len HD.out)
  have LDL := Lib.hid (digN_lt HD.out LD.out)
  have HSF := Lib.hid (show ∀ j, fromF sig i (digN d) j = walkI (byteNs (part sig j)) (placeB i j) ((digN d).getD j 0 : Nat) 15 from fun j => rfl)
  have HMN := Lib.hid (meetN_of sig i d)
  obtain ⟨D, hDn⟩ : ∃ D, digN d = D := ⟨_, rfl⟩
  rw [hDn] at HO2 HDL LDL HSF HMN
  clear hb2 HB1 HD1 HR1 ho hv hg1 hg2 HI hDn hlen
  go_wp2_with fail
  go_loopw [8, 20] (fun s n wq => ∃ k : Nat, k ≤ 35 ∧ n = .int .i64 k ∧ s = .string ⟨(rowE (fromF sig i D) k).toArray⟩ ∧ Below w2.heap.size w2 wq) (fun _ n _ => 35 - (intOf n).toNat)
  case atStart => exact ⟨0, by omega, rfl, rfl, Below.refl _ _⟩
  case round =>
    obtain ⟨k, hk, rfl, rfl, hb⟩ := hrel
    have HB := Lib.hid hb
    have HO := Lib.hid (HO2.out.below hb)
    have HW := Lib.hid hb.size
    clear hb
    by_cases hlk : k < 35
    · have c1 := HO.out.cellN HDL.out.symm k hlk
      have hy := getD_lt LDL.out (by decide) k
      have HF := Lib.hid (HSF.out k)
      generalize D.getD k 0 = y at c1 hy HF
      go_upto_if 21 with (fail)
      rw [show decide ((k : Int) < 35) = true from decide_eq_true (by omega)]
      go_upto_region 8 with (fail)
      change Code.wp _ _ _ _ (wr.alloc (.cells (nums .u8 (List.replicate 16 0)).toArray 61))
      obtain ⟨w3, hw3⟩ : ∃ x', x' = wr.alloc (.cells (nums .u8 (List.replicate 16 0)).toArray 61) := ⟨_, rfl⟩
      rw [← hw3]
      have hb3 : Below wr.heap.size wr w3 := by rw [hw3]; exact (Below.refl _ _).alloc (Nat.le_refl _) _
      have HX3 := Lib.hid (show Blk wr.heap.size 61 .u8 (List.replicate 16 0) w3 by rw [hw3]; exact heap_alloc_new wr _)
      have HB3 := Lib.hid (HB.out.trans (hb3.mono HB.out.size))
      have HSZ := Lib.hid (show sig.length = 560 from HS.out)
      have HPL := Lib.hid (partN_len HS.out hlk)
      have HPN := Lib.hid (byteNs_part_lt sig k)
      have HPA := Lib.hid (fun q (hq : q < 16) => fun w => run_part_at (P := Tryd.prog) 9 Tryd.underlying9 sig k q hq (by have := HS.out; omega) w)
      obtain ⟨gx, hgx⟩ : ∃ g, g = wr.heap.size := ⟨_, rfl⟩
      rw [← hgx] at HX3 ⊢
      have HGX := Lib.hid (show w2.heap.size ≤ gx by have := HW.out; omega)
      have HFL := Lib.hid (fromF_len HS.out i D hlk)
      have HFT := Lib.hid (fromF_lt sig i D k)
      have HRN := Lib.hid (show rowE (fromF sig i D) (k + 1) = rowE (fromF sig i D) k ++ txt (fromF sig i D k) from rfl)
      have hcl : ¬ 9223372036854775807 < (rowE (fromF sig i D) k).length + (txt (fromF sig i D k)).length := by rw [rowE_len' (k := k) (fun j hj => fromF_len HS.out i D (j := j) (by omega)), txt_len, HFL.out]; omega
      clear hw3 hb3 HO c1 HB hgx
      generalize byteNs (part sig k) = P at *
      generalize fromF sig i D k = x at *
      generalize rowE (fromF sig i D) k = R at *
      go_wp2_with fail
      go_loopw [25] (fun n wq => ∃ q : Nat, q ≤ 16 ∧ n = .int .i64 q ∧ Blk gx 61 .u8 (cutP P q) wq ∧ But gx w3 wq) (fun n _ => 16 - (intOf n).toNat)
      case atStart => exact ⟨0, by omega, rfl, HX3.out, But.refl _ _⟩
      case round =>
        clear HX3
        obtain ⟨q, hq, rfl, hc, hb⟩ := hrel
        have HC := Lib.hid hc
        have HB := Lib.hid hb
        clear hc hb
        by_cases hlq : q < 16
        · have hix := HPA.out q hlq
          have c2 := HC.out.cell q (by rw [cutP_len (by rw [HPL.out]; exact Nat.le_refl _) hq]; exact hlq)
          have f2 := HC.out.frozen q
          have HS3 := Lib.hid (HC.out.set q (P.getD q 0))
          rw [cutP_set (by rw [HPL.out]; exact Nat.le_refl _) hlq] at HS3
          generalize (cutP P q).getD q 0 = z at c2
          generalize P.getD q 0 = v at hix HS3
          go_wp2_with fail
          exact ⟨⟨q + 1, by omega, by go_num, HS3.out, HB.out.setCell _ _⟩, by simp [intOf]; omega⟩
        · obtain rfl : q = 16 := by omega
          rw [cutP_full, List.take_of_length_le (by rw [HPL.out]; exact Nat.le_refl _)] at HC
          have HX4 := Lib.hid (show Blk gx 61 .u8 P wr from HC.out)
          have HB4 := Lib.hid (show Below w2.heap.size w2 wr from But.toBelow HB3.out HB.out HGX.out HB3.out.size)
          have HIP := Lib.hid (show (Tryd.prog.info? 61).map (·.size) = some P.length by rw [HPL.out]; exact Tryd.infoE)
          clear HC HB HPA
          go_wp2_with (refine wpList_load_nums rfl 61 _ rfl gx .u8 _ 61 _ rfl HX4.out Tryd.underlying61 rfl HIP.out ?_)
          refine (ref_walk P i k y 15 _ HPL.out HPN.out HI0.out HI1.out (by omega) (by omega) (by omega) (by omega) (by omega) (by omega)).mono ?_
          rintro e w5 ⟨rfl, hb5⟩
          rw [← HF.out]
          have HX5 := Lib.hid (HX4.out.below hb5)
          have HB5 := Lib.hid (HB4.out.trans (hb5.mono HB4.out.size))
          clear hb5 HX4 HB4 HF HIP
          have HI := Lib.hid (show (Tryd.prog.info? 61).map (·.size) = some x.length by rw [HFL.out]; exact Tryd.infoE)
          have HL2 := Lib.hid (show P.length = x.length by rw [HFL.out, HPL.out])
          go_wp2_with (refine wpList_store_nums rfl 61 _ _ rfl rfl gx .u8 _ x 61 rfl rfl HX5.out HI.out HL2.out ?_)
          intro w6 hc' hb'
          have HX6 := Lib.hid (show Blk gx 61 .u8 x w6 from hc'.out)
          have HB6 := Lib.hid (show Below w2.heap.size w2 w6 from But.toBelow HB5.out hb'.out HGX.out HB5.out.size)
          clear hc' hb' HX5 HB5 HI HL2
          have hconv := conv_blk (P := Tryd.prog) w6 73 9 5 gx 16 16 x 61 HFL.out.symm HFT.out HX6.out Tryd.underlying73 Tryd.underlying5 Tryd.underlying9
          have hcat := cat2 R (txt x)
          go_wp2_with fail
          exact ⟨⟨k + 1, by omega, by go_num, by rw [HRN.out], HB6.out⟩, by simp [intOf]; omega⟩
    · obtain rfl : k = 35 := by omega
      have HRr := Lib.hid (HR2.out.below (HB.out.mono (Nat.le_refl _)))
      have HBr := Lib.hid (HB2.out.trans (HB.out.mono HB2.out.size))
      have HEL := Lib.hid (show (rowE (fromF sig i D) 35).length ≤ 4000 by rw [rowE_len' (k := 35) fun j hj => fromF_len HS.out i _ hj]; decide)
      generalize rowE (fromF sig i D) 35 = E at *
      clear HB HB2 HR2 HO
      go_upto_if 21 with (fail)
      go_wp2_with fail
      refine (ref_of4 E i _ HEL.out HI0.out HI1.out).mono ?_
      rintro e w4 ⟨rfl, hb4⟩
      have HR4 := Lib.hid (HRr.out.below hb4)
      have HB4 := Lib.hid (HBr.out.trans (hb4.mono HBr.out.size))
      have HNL := Lib.hid (show (keyN E i).length = 16 from keyN_len _ _)
      clear hb4 HRr HBr HEL
      generalize keyN E i = N at *
      have HI := Lib.hid (show (Tryd.prog.info? 61).map (·.size) = some N.length by rw [HNL.out]; exact Tryd.infoE)
      have HL2 := Lib.hid (show (List.replicate 16 0).length = N.length by rw [HNL.out]; rfl)
      go_wp2_with (refine wpList_store_nums rfl 61 _ _ rfl rfl gr .u8 _ N 61 rfl rfl HR4.out HI.out HL2.out ?_)
      intro w7 hc' hb'
      have HC7 := Lib.hid (show Blk gr 61 .u8 N w7 from hc'.out)
      have HB7 := Lib.hid (show Below w.heap.size w w7 from But.toBelow HB4.out hb'.out (by have := HGR.out; omega) HB4.out.size)
      clear hc' hb'
      go_wp2_with fail
      exact bodyPost_ret (results_nums_tmp rfl _ _ gr .u8 _ 61 _ _ rfl rfl HC7.out Tryd.underlying61 rfl HI.out) rfl ⟨by rw [← HMN.out]; rfl, HB7.out⟩
end Go.Proofs.YtpfhlhcnmeodbaaDoor
namespace Go.Proofs.YtpfhlhcnmeodbaaDoor
open Go.RowKit Go.BigFrame
theorem half_any (a : Int) (w : World) (h0 : -9223372036854775808 ≤ a) (h1 : a ≤ 9223372036854775807) :
    Calls Tryd.prog 114 #[.int .i64 a] w fun e w' => e = .returned (.int .i64 (a / 2)) ∧ w' = w := by
  go_enter Tryd.func114, Tryd.ntmps114
  by_cases hn : a < 0
  · obtain ⟨h2, h3⟩ := tdiv_two hn
    by_cases hm : (-a) % 2 = 0
    · have h4 : (a.tmod 2 != 0) = false := by rw [h3, hm]; rfl
      have h5 : a.tdiv 2 = a / 2 := by rw [h2]; omega
      clear h2 h3
      go_wp2_with fail
      go_ret
      exact ⟨rfl, rfl⟩
    · have h4 : (a.tmod 2 != 0) = true := by
        rw [h3, bne_iff_ne]
        omega
      have h5 : wrap64 (a.tdiv 2 - 1) = a / 2 := by
        rw [h2]
        unfold wrap64
        omega
      have H5 := Lib.hid h5
      clear h2 h3 h5
      go_wp2_with fail
      go_ret
      exact ⟨by rw [← H5.out]; rfl, rfl⟩
  · go_wp2_with fail
    go_ret
    exact ⟨rfl, rfl⟩
end Go.Proofs.YtpfhlhcnmeodbaaDoor
namespace Go.Proofs.YtpfhlhcnmeodbaaDoor
open Go.RowKit Go.BigFrame
set_option maxHeartbeats 1000000 in
set_option maxRecDepth 100000 in
theorem ref_climb (x : List Nat) (a : Int) (p : List (List Nat)) (ao : Option Addr) (cap : Nat) (w : World) (hx : x.length = 16) (lx : ∀ y ∈ x, y < 256) (a0 : -9223372036854775808 ≤ a) (a1 : a ≤ 9223372036854775807)
    (hp : Elems p) (hE : EAt ao p w) (hn : p.length ≤ 9000000000000) :
    Calls Tryd.prog 82 #[.agg (nums .u8 x).toArray, .int .i64 a, .slice ao p.length cap] w fun e w' => e = .returned (.agg (nums .u8 (climbN x a p p.length)).toArray) ∧ Below w.heap.size w w' := by
  have HX := Lib.hid hx
  have LX := Lib.hid lx
  have HE := Lib.hid hE
  have EP := Lib.hid hp
  have HAB := Lib.hid (fun k => half_bounds a0 a1 k)
  clear hx lx hE hp a0 a1
  go_enter Tryd.func82, Tryd.ntmps82
  go_upto_region 1 with (fail)
  change Code.wp _ _ _ _ ((w.alloc (.cells (nums .u8 x).toArray 61)).alloc (.cells (nums .u8 (List.replicate 16 0)).toArray 61))
  obtain ⟨w1, hw1⟩ : ∃ x', x' = (w.alloc (.cells (nums .u8 x).toArray 61)).alloc (.cells (nums .u8 (List.replicate 16 0)).toArray 61) := ⟨_, rfl⟩
  rw [← hw1]
  have h3 : Blk w.heap.size 61 .u8 x w1 ∧ Blk (w.heap.size + 1) 61 .u8 (List.replicate 16 0) w1 ∧ Below w.heap.size w w1 := by rw [hw1]; exact two_new w _ _ _ _
  obtain ⟨hx1, hr1, hb1⟩ := h3
  obtain ⟨gr, hgr⟩ : ∃ g, g = w.heap.size + 1 := ⟨_, rfl⟩
  obtain ⟨gx, hgx⟩ : ∃ g, g = w.heap.size := ⟨_, rfl⟩
  rw [← hgr] at hr1 ⊢
  rw [← hgx] at hx1 ⊢
  have HGR := Lib.hid (show w.heap.size ≤ gr by omega)
  have HGX := Lib.hid (show w.heap.size ≤ gx by omega)
  have HNE := Lib.hid (show gx ≠ gr by omega)
  have HX1 := Lib.hid hx1
  have HR1 := Lib.hid hr1
  have HB1 := Lib.hid hb1
  clear hx1 hr1 hb1 hw1 hgr hgx
  go_wp2_with fail
  go_loopw [1, 12] (fun c n wq => ∃ k : Nat, k ≤ p.length ∧ n = .int .i64 k ∧ c = .int .i64 (a / 2 ^ k) ∧ Blk gx 61 .u8 (climbN x a p k) wq ∧ Blk gr 61 .u8 (List.replicate 16 0) wq ∧ Below w.heap.size w wq) (fun _ n _ => p.length - (intOf n).toNat)
  case atStart => exact ⟨0, by omega, rfl, by simp, HX1.out, HR1.out, HB1.out⟩
  case round =>
    clear HX1 HR1 HB1
    obtain ⟨k, hk, rfl, rfl, hxk, hrk, hb⟩ := hrel
    have HXK := Lib.hid hxk
    have HRK := Lib.hid hrk
    have HB := Lib.hid hb
    have HCL := Lib.hid (climbN_len HX.out a p k)
    have HCT := Lib.hid (climbN_lt LX.out a p k)
    by_cases hlk : k < p.length
    · obtain ⟨b, o, rfl, hbb⟩ := HE.out.some (by omega)
      have HY := Lib.hid (rangeAt_below (HE.out.get hlk) hb hbb)
      obtain ⟨hy1, hy2⟩ := EP.out.getD hlk
      obtain ⟨hc0, hc1⟩ := HAB.out k
      have HNX := Shut.mk (climbN_next x a p k)
      have HHN := Shut.mk (half_next a k)
      obtain ⟨c, hc⟩ : ∃ c, a / 2 ^ k = c := ⟨_, rfl⟩
      obtain ⟨y, hy⟩ : ∃ y, p.getD k [] = y := ⟨_, rfl⟩
      obtain ⟨z, hz⟩ : ∃ z, climbN x a p k = z := ⟨_, rfl⟩
      rw [hc] at hc0 hc1 HNX HHN ⊢
      rw [hy] at hy1 hy2 HY HNX
      rw [hz] at HXK HCL HCT HNX
      have HY1 := Lib.hid hy1
      have HY2 := Lib.hid hy2
      clear hxk hrk hb hc hy hz hy1 hy2
      have HIY := Lib.hid (show (Tryd.prog.info? 61).map (·.size) = some y.length by rw [HY1.out]; exact Tryd.infoE)
      have HIZ := Lib.hid (show (Tryd.prog.info? 61).map (·.size) = some z.length by rw [HCL.out]; exact Tryd.infoE)
      have HLY := Lib.hid (show (List.replicate 16 0).length = y.length by rw [HY1.out]; rfl)
      have HX8 := Lib.hid (show Blk wr.heap.size 61 .u8 (List.replicate 16 0) (wr.alloc (.cells (nums .u8 (List.replicate 16 0)).toArray 61)) from heap_alloc_new wr _)
      go_wp2_with (first
        | (refine wpList_load_elem rfl 61 _ rfl b (o + k * 16) y _ rfl HY.out Tryd.underlying61 rfl HIY.out ?_)
        | (refine wpList_store_nums rfl 61 _ _ rfl rfl wr.heap.size .u8 _ y 61 rfl rfl HX8.out HIY.out HLY.out ?_))
      intro w2 hc' hb'
      have hb2 : Below wr.heap.size wr w2 := But.toBelow ((Below.refl _ wr).alloc (Nat.le_refl _) _) hb'.out (Nat.le_refl _) (by simp)
      have HY5 := Lib.hid (show Blk wr.heap.size 61 .u8 y w2 from hc'.out)
      have HX5 := Lib.hid (HXK.out.below hb2)
      have HR5 := Lib.hid (HRK.out.below hb2)
      have HB5 := Lib.hid (HB.out.trans (hb2.mono HB.out.size))
      obtain ⟨gy, hgy⟩ : ∃ g, g = wr.heap.size := ⟨_, rfl⟩
      rw [← hgy] at HY5 ⊢
      clear hc' hb' hb2 hgy HXK HRK HB HX8 HLY
      go_wp2_with fail
      refine (half_any c _ hc0 hc1).mono ?_
      rintro e w3 ⟨rfl, rfl⟩
      by_cases hpar : c % 2 = 0
      · have h4 : (c.tmod 2 != 0) = false := by rw [tmod_ne]; simp [hpar]
        have HST := Shut.mk (show stepN z y c k = upN z y ((k + 1 : Nat) : Int) (c / 2) by unfold stepN; rw [if_pos hpar])
        go_wp2_with (first
          | (refine wpList_load_nums rfl 61 _ rfl gy .u8 _ 61 _ rfl HY5.out Tryd.underlying61 rfl HIY.out ?_)
          | (refine wpList_load_nums rfl 61 _ rfl gx .u8 _ 61 _ rfl HX5.out Tryd.underlying61 rfl HIZ.out ?_))
        refine (ref_up z y ((k + 1 : Nat) : Int) (c / 2) _ HCL.out HCT.out HY1.out HY2.out (by omega) (by omega) (by omega) (by omega)).mono ?_
        rintro e w4 ⟨rfl, hb4⟩
        have HX6 := Lib.hid (HX5.out.below hb4)
        have HR6 := Lib.hid (HR5.out.below hb4)
        have HB6 := Lib.hid (HB5.out.trans (hb4.mono HB5.out.size))
        clear hb4 HX5 HY5 HR5 HB5
        have HUL0 := upN_len z y ((k + 1 : Nat) : Int) (c / 2)
        obtain ⟨U, hU⟩ : ∃ U, upN z y ((k + 1 : Nat) : Int) (c / 2) = U := ⟨_, rfl⟩
        rw [hU] at HST HUL0 ⊢
        have HUL := Lib.hid HUL0
        have HCN := Shut.mk (show climbN x a p (k + 1) = U from HNX.out.trans HST.out)
        clear hU HUL0 HST HNX
        have HIU := Lib.hid (show (Tryd.prog.info? 61).map (·.size) = some U.length by rw [HUL.out]; exact Tryd.infoE)
        have HLU := Lib.hid (show z.length = U.length by rw [HUL.out, HCL.out])
        go_wp2_with (refine wpList_store_nums rfl 61 _ _ rfl rfl gx .u8 _ U 61 rfl rfl HX6.out HIU.out HLU.out ?_)
        intro w7 hc' hb'
        have HX7 := Lib.hid (show Blk gx 61 .u8 U w7 from hc'.out)
        have HR7 := Lib.hid (HR6.out.but hb'.out (Ne.symm HNE.out))
        have HB7 := Lib.hid (show Below w.heap.size w w7 from But.toBelow HB6.out hb'.out HGX.out HB6.out.size)
        clear hc' hb'
        go_wp2_with fail
        exact ⟨⟨k + 1, by omega, by go_num, by rw [← HHN.out], by rw [HCN.out]; exact HX7.out, HR7.out, HB7.out⟩, by simp [intOf]; omega⟩
      · have h4 : (c.tmod 2 != 0) = true := by rw [tmod_ne]; simp [hpar]
        have HST := Shut.mk (show stepN z y c k = upN y z ((k + 1 : Nat) : Int) (c / 2) by unfold stepN; rw [if_neg hpar])
        go_wp2_with (first
          | (refine wpList_load_nums rfl 61 _ rfl gy .u8 _ 61 _ rfl HY5.out Tryd.underlying61 rfl HIY.out ?_)
          | (refine wpList_load_nums rfl 61 _ rfl gx .u8 _ 61 _ rfl HX5.out Tryd.underlying61 rfl HIZ.out ?_))
        refine (ref_up y z ((k + 1 : Nat) : Int) (c / 2) _ HY1.out HY2.out HCL.out HCT.out (by omega) (by omega) (by omega) (by omega)).mono ?_
        rintro e w4 ⟨rfl, hb4⟩
        have HX6 := Lib.hid (HX5.out.below hb4)
        have HR6 := Lib.hid (HR5.out.below hb4)
        have HB6 := Lib.hid (HB5.out.trans (hb4.mono HB5.out.size))
        clear hb4 HX5 HY5 HR5 HB5
        have HUL0 := upN_len y z ((k + 1 : Nat) : Int) (c / 2)
        obtain ⟨U, hU⟩ : ∃ U, upN y z ((k + 1 : Nat) : Int) (c / 2) = U := ⟨_, rfl⟩
        rw [hU] at HST HUL0 ⊢
        have HUL := Lib.hid HUL0
        have HCN := Shut.mk (show climbN x a p (k + 1) = U from HNX.out.trans HST.out)
        clear hU HUL0 HST HNX
        have HIU := Lib.hid (show (Tryd.prog.info? 61).map (·.size) = some U.length by rw [HUL.out]; exact Tryd.infoE)
        have HLU := Lib.hid (show z.length = U.length by rw [HUL.out, HCL.out])
        go_wp2_with (refine wpList_store_nums rfl 61 _ _ rfl rfl gx .u8 _ U 61 rfl rfl HX6.out HIU.out HLU.out ?_)
        intro w7 hc' hb'
        have HX7 := Lib.hid (show Blk gx 61 .u8 U w7 from hc'.out)
        have HR7 := Lib.hid (HR6.out.but hb'.out (Ne.symm HNE.out))
        have HB7 := Lib.hid (show Below w.heap.size w w7 from But.toBelow HB6.out hb'.out HGX.out HB6.out.size)
        clear hc' hb'
        go_wp2_with fail
        exact ⟨⟨k + 1, by omega, by go_num, by rw [← HHN.out], by rw [HCN.out]; exact HX7.out, HR7.out, HB7.out⟩, by simp [intOf]; omega⟩
    · obtain rfl : k = p.length := by omega
      have HIZ := Lib.hid (show (Tryd.prog.info? 61).map (·.size) = some (climbN x a p p.length).length by rw [HCL.out]; exact Tryd.infoE)
      have HLZ := Lib.hid (show (List.replicate 16 0).length = (climbN x a p p.length).length by rw [HCL.out]; rfl)
      obtain ⟨z, hz⟩ : ∃ z, climbN x a p p.length = z := ⟨_, rfl⟩
      rw [hz] at HXK HIZ HLZ
      have HZ := Shut.mk hz
      clear hxk hrk hb hz HCL HCT
      go_wp2_with (first
        | (refine wpList_load_nums rfl 61 _ rfl gx .u8 _ 61 _ rfl HXK.out Tryd.underlying61 rfl HIZ.out ?_)
        | (refine wpList_store_nums rfl 61 _ _ rfl rfl gr .u8 _ z 61 rfl rfl HRK.out HIZ.out HLZ.out ?_))
      intro w7 hc' hb'
      have HC7 := Lib.hid (show Blk gr 61 .u8 z w7 from hc'.out)
      have HB7 := Lib.hid (show Below w.heap.size w w7 from But.toBelow HB.out hb'.out HGR.out HB.out.size)
      clear hc' hb'
      go_wp2_with fail
      exact bodyPost_ret (results_nums rfl _ _ gr .u8 _ 61 _ rfl HC7.out Tryd.underlying61 rfl HIZ.out) rfl ⟨by rw [HZ.out], HB7.out⟩
set_option maxHeartbeats 4000000 in
set_option maxRecDepth 100000 in
theorem dev_climb (x : List Nat) (a : Int) (p : List (List Nat)) (ao : Option Addr) (cap : Nat) (w : World) (hx : x.length = 16) (lx : ∀ y ∈ x, y < 256) (a0 : -9223372036854775808 ≤ a) (a1 : a ≤ 9223372036854775807)
    (hp : Elems p) (hE : EAt ao p w) (hn : p.length ≤ 9000000000000) (hkat : KAt w) :
    Calls Tryd.prog 77 #[.agg (nums .u8 x).toArray, .int .i64 a, .slice ao p.length cap] w fun e w' => e = .returned (.agg (nums .u8 (climbN x a p p.length)).toArray) ∧ Below w.heap.size w w' := by
  have HX := Lib.hid hx
  have LX := Lib.hid lx
  have HE := Lib.hid hE
  have EP := Lib.hid hp
  have HK := Lib.hid hkat
  have HAB := Lib.hid (fun k => half_bounds a0 a1 k)
  have HAL := Lib.hid (show ∀ w : World, (Instr.alloc 61 true (.tuple #[])).run Tryd.prog w = .ok (.pointer (some ⟨w.heap.size, 0, none⟩)) (w.alloc (.cells (nums .u8 (List.replicate 16 0)).toArray 61)) from fun w => by kernel_rfl)
  have HIX := Lib.hid (show (Tryd.prog.info? 61).map (·.size) = some x.length by rw [hx]; exact Tryd.infoE)
  have HLX := Lib.hid (show (List.replicate 16 0).length = x.length by rw [hx]; rfl)
  clear hx lx hE hp a0 a1 hkat
  go_enter Tryd.func77, Tryd.ntmps77
  go_upto_region 1 with (fail)
  change Code.wp _ _ _ _ ((w.alloc (.cells (nums .u8 x).toArray 61)).alloc (.cells (nums .u8 (List.replicate 16 0)).toArray 61))
  obtain ⟨w1, hw1⟩ : ∃ x', x' = (w.alloc (.cells (nums .u8 x).toArray 61)).alloc (.cells (nums .u8 (List.replicate 16 0)).toArray 61) := ⟨_, rfl⟩
  rw [← hw1]
  have h3 : Blk w.heap.size 61 .u8 x w1 ∧ Blk (w.heap.size + 1) 61 .u8 (List.replicate 16 0) w1 ∧ Below w.heap.size w w1 := by rw [hw1]; exact two_new w _ _ _ _
  obtain ⟨hl1, hr1, hb1⟩ := h3
  obtain ⟨gr, hgr⟩ : ∃ g, g = w.heap.size + 1 := ⟨_, rfl⟩
  obtain ⟨gl, hgl⟩ : ∃ g, g = w.heap.size := ⟨_, rfl⟩
  rw [← hgr] at hr1 ⊢
  rw [← hgl] at hl1 ⊢
  have HGR := Lib.hid (show w.heap.size ≤ gr by omega)
  have HL1 := Lib.hid hl1
  have HR1 := Lib.hid hr1
  have HB1 := Lib.hid hb1
  have HX8 := Lib.hid (show Blk w1.heap.size 61 .u8 (List.replicate 16 0) (w1.alloc (.cells (nums .u8 (List.replicate 16 0)).toArray 61)) from heap_alloc_new w1 _)
  clear hl1 hr1 hb1 hw1 hgr hgl
  go_wp2_with (first
    | (refine wpList_load_nums rfl 61 _ rfl gl .u8 _ 61 _ rfl HL1.out Tryd.underlying61 rfl HIX.out ?_)
    | (refine wpList_store_nums rfl 61 _ _ rfl rfl w1.heap.size .u8 _ x 61 rfl rfl HX8.out HIX.out HLX.out ?_))
  intro w2 hc' hb'
  have hb2 : Below w1.heap.size w1 w2 := But.toBelow ((Below.refl _ w1).alloc (Nat.le_refl _) _) hb'.out (Nat.le_refl _) (by simp)
  have HX2 := Lib.hid (show Blk w1.heap.size 61 .u8 x w2 from hc'.out)
  have HR2 := Lib.hid (HR1.out.below hb2)
  have HB2 := Lib.hid (HB1.out.trans (hb2.mono HB1.out.size))
  have HGX := Lib.hid (show w.heap.size ≤ w1.heap.size from HB1.out.size)
  have HNE := Lib.hid (show w1.heap.size ≠ gr from Ne.symm (Nat.ne_of_lt HR1.out.lt))
  obtain ⟨gx, hgx⟩ : ∃ g, g = w1.heap.size := ⟨_, rfl⟩
  rw [← hgx] at HX2 HGX HNE ⊢
  clear hc' hb' hb2 hgx HL1 HR1 HB1 HX8 HLX HIX
  go_wp2_with fail
  go_loopw [1, 15] (fun c n wq => ∃ k : Nat, k ≤ p.length ∧ n = .int .i64 k ∧ c = .int .i64 (a / 2 ^ k) ∧ Blk gx 61 .u8 (climbN x a p k) wq ∧ Blk gr 61 .u8 (List.replicate 16 0) wq ∧ Below w.heap.size w wq) (fun _ n _ => p.length - (intOf n).toNat)
  case atStart => exact ⟨0, by omega, rfl, by simp, HX2.out, HR2.out, HB2.out⟩
  case round =>
    clear HX2 HR2 HB2
    obtain ⟨k, hk, rfl, rfl, hxk, hrk, hb⟩ := hrel
    have HXK := Lib.hid hxk
    have HRK := Lib.hid hrk
    have HB := Lib.hid hb
    have HCL := Lib.hid (climbN_len HX.out a p k)
    have HCT := Lib.hid (climbN_lt LX.out a p k)
    by_cases hlk : k < p.length
    · obtain ⟨b, o, rfl, hbb⟩ := HE.out.some (by omega)
      have HY := Lib.hid (rangeAt_below (HE.out.get hlk) hb hbb)
      obtain ⟨hy1, hy2⟩ := EP.out.getD hlk
      obtain ⟨hc0, hc1⟩ := HAB.out k
      have HNX := Shut.mk (climbN_next x a p k)
      have HHN := Shut.mk (half_next a k)
      obtain ⟨c, hc⟩ : ∃ c, a / 2 ^ k = c := ⟨_, rfl⟩
      obtain ⟨y, hy⟩ : ∃ y, p.getD k [] = y := ⟨_, rfl⟩
      obtain ⟨z, hz⟩ : ∃ z, climbN x a p k = z := ⟨_, rfl⟩
      rw [hc] at hc0 hc1 HNX HHN ⊢
      rw [hy] at hy1 hy2 HY HNX
      rw [hz] at HXK HCL HCT HNX
      have HY1 := Lib.hid hy1
      have HY2 := Lib.hid hy2
      clear hxk hrk hb hc hy hz hy1 hy2
      have HIY := Lib.hid (show (Tryd.prog.info? 61).map (·.size) = some y.length by rw [HY1.out]; exact Tryd.infoE)
      have HIZ := Lib.hid (show (Tryd.prog.info? 61).map (·.size) = some z.length by rw [HCL.out]; exact Tryd.infoE)
      have HLY := Lib.hid (show (List.replicate 16 0).length = y.length by rw [HY1.out]; rfl)
      have HLZ := Lib.hid (show (List.replicate 16 0).length = z.length by rw [HCL.out]; rfl)
      have HX8 := Lib.hid (show Blk wr.heap.size 61 .u8 (List.replicate 16 0) (wr.alloc (.cells (nums .u8 (List.replicate 16 0)).toArray 61)) from heap_alloc_new wr _)
      go_wp2_with (first
        | (refine wpList_load_elem rfl 61 _ rfl b (o + k * 16) y _ rfl HY.out Tryd.underlying61 rfl HIY.out ?_)
        | (refine wpList_store_nums rfl 61 _ _ rfl rfl wr.heap.size .u8 _ y 61 rfl rfl HX8.out HIY.out HLY.out ?_))
      intro w2 hc' hb'
      have hb2 : Below wr.heap.size wr w2 := But.toBelow ((Below.refl _ wr).alloc (Nat.le_refl _) _) hb'.out (Nat.le_refl _) (by simp)
      have HY5 := Lib.hid (show Blk wr.heap.size 61 .u8 y w2 from hc'.out)
      have HX5 := Lib.hid (HXK.out.below hb2)
      have HR5 := Lib.hid (HRK.out.below hb2)
      have HB5 := Lib.hid (HB.out.trans (hb2.mono HB.out.size))
      obtain ⟨gy, hgy⟩ : ∃ g, g = wr.heap.size := ⟨_, rfl⟩
      have HNY := Lib.hid (show gy < w2.heap.size from by rw [hgy]; exact HY5.out.lt)
      rw [← hgy] at HY5 ⊢
      clear hc' hb' hb2 hgy HXK HRK HB HX8
      go_upto_region 5 with (fail)
      refine wp_region_free 5 (fun s V w' => Below w2.heap.size w2 w' ∧ Val s V 0 (.agg (nums .u8 z).toArray) ∧ Val s V 1 (.agg (nums .u8 y).toArray) ∧ Put s V w2.heap.size 2 4 61 .u8 (List.replicate 16 0) z w' ∧ New s V w2.heap.size 3 61 .u8 (List.replicate 16 0) w' ∧ Two s V 2 3 ∧ Late s 2 4) (fun | 0 => u20 | 1 => u21 | 2 => u10 | 3 => u11 | _ => undef) (by kernel_rfl) (by kernel_rfl) (by kernel_rfl) rfl ⟨(Below.refl _ _).drew, Val.none, Val.none, Put.none, New.none, Two.none, Late.none⟩ ?_ ?_
      · simp only [List.take_succ_cons, List.take_zero, putAll, Nat.zero_add, Nat.reduceAdd, Act.put, List.setIfInBounds_toArray, List.set_cons_zero, List.set_cons_succ]
        refine FreeSteps.cons ?_ (FreeSteps.cons ?_ (FreeSteps.cons ?_ (FreeSteps.cons ?_ (FreeSteps.cons ?_ FreeSteps.nil))))
        all_goals (refine FreeStep.fresh rfl ?_; rintro s V wq hr hu ⟨hB, h0, h1, h2, h3, h4, hl⟩ K hK)
        · exact op_load_nums 61 (.tmp 7) rfl gx .u8 z 61 _ rfl (HX5.out.below hB) Tryd.underlying61 rfl HIZ.out (hK _ _ ⟨hB, .same, h1.ne (by decide), h2.ne (by decide) (by decide) (Below.refl _ _), h3.ne (by decide) (Below.refl _ _), h4.ne (by decide) (by decide), hl.ne (by decide)⟩)
        · exact op_load_nums 61 (.tmp 9) rfl gy .u8 y 61 _ rfl (HY5.out.below hB) Tryd.underlying61 rfl HIY.out (hK _ _ ⟨hB, h0.ne (by decide), .same, h2.ne (by decide) (by decide) (Below.refl _ _), h3.ne (by decide) (Below.refl _ _), h4.ne (by decide) (by decide), hl.ne (by decide)⟩)
        · have hb : Below wq.heap.size wq (wq.alloc (.cells (nums .u8 (List.replicate 16 0)).toArray 61)) := (Below.refl _ _).alloc (Nat.le_refl _) _
          exact op_alloc 61 rfl _ HAL.out (hK _ _ ⟨hB.trans (hb.mono hB.size), h0.ne (by decide), h1.ne (by decide), .made hB.size (hl.not hu) (by decide), h3.ne (by decide) hb, .left h3 (by decide), hl.ne (by decide)⟩)
        · have hb : Below wq.heap.size wq (wq.alloc (.cells (nums .u8 (List.replicate 16 0)).toArray 61)) := (Below.refl _ _).alloc (Nat.le_refl _) _
          exact op_alloc 61 rfl _ HAL.out (hK _ _ ⟨hB.trans (hb.mono hB.size), h0.ne (by decide), h1.ne (by decide), h2.ne (by decide) (by decide) hb, .same hB.size, Two.right (l := if s 4 = true then z else List.replicate 16 0) h2 (by decide), hl.ne (by decide)⟩)
        · have s2 := hr { on := 2, ground := .data } (by simp) rfl
          obtain ⟨g, e2, hg, hk2⟩ := h2 s2
          rw [if_neg (by rw [hu]; decide)] at hk2
          refine op_store_nums 61 (.tmp 10) (.tmp 20) rfl g .u8 _ z 61 e2 (h0 (hr { on := 0, ground := .data } (by simp) rfl)) hk2 HIZ.out HLZ.out ?_
          intro w' hc hb
          refine hK _ _ ⟨But.toBelow hB hb hg hB.size, h0.ne (by decide), h1.ne (by decide), .stored e2 hg (by decide) hc, ?_, h4.ne (by decide) (by decide), .same s2⟩
          intro hs
          have s3 := seen_ne (by decide) hs
          obtain ⟨g3, e3, hg3, hk3⟩ := h3 s3
          exact ⟨g3, by rw [upd_ne _ _ (by decide)]; exact e3, hg3, hk3.but hb (fun e => h4 s2 s3 (by rw [e2, e3, e]))⟩
      · rintro s V w4 hall ⟨hB, h0, h1, h2, h3, h4, hl⟩
        have v0 := h0 (hall 0 (by decide))
        have v1 := h1 (hall 1 (by decide))
        obtain ⟨ga, v2, hga, ha⟩ := h2 (hall 2 (by decide))
        rw [if_pos (hall 4 (by decide))] at ha
        obtain ⟨gb, v3, hgb, hb⟩ := h3 (hall 3 (by decide))
        have hne : ga ≠ gb := fun e => h4 (hall 2 (by decide)) (hall 3 (by decide)) (by rw [v2, v3, e])
        simp only [List.take_succ_cons, List.take_zero, List.drop_succ_cons, List.drop_zero, putAll, Nat.zero_add, Nat.reduceAdd, v0, v1, v2, v3, Act.put, List.setIfInBounds_toArray, List.set_cons_zero, List.set_cons_succ]
        clear h0 h1 h2 h3 h4 hl v0 v1 v2 v3 hall
        have HXL := Lib.hid HX5.out.lt
        have HRL := Lib.hid HR5.out.lt
        have HBL := Lib.hid HB5.out.size
        have HX7 := Lib.hid (HX5.out.below hB)
        have HY7 := Lib.hid (HY5.out.below hB)
        have HR7 := Lib.hid (HR5.out.below hB)
        have HB7 := Lib.hid (HB5.out.trans (hB.mono HB5.out.size))
        have HA7 := Lib.hid ha
        have HZ7 := Lib.hid hb
        have HAZ := Lib.hid hne
        have HGA := Lib.hid hga
        have HGB := Lib.hid hgb
        clear hB ha hb hne hga hgb HX5 HY5 HR5 HB5
        go_wp2_with (refine wpList_store_nums rfl 61 _ _ rfl rfl gb .u8 _ y 61 rfl rfl HZ7.out HIY.out HLY.out ?_)
        intro w5 hc hb
        have HX8 := Lib.hid (HX7.out.but hb.out (by have := HGB.out; have := HXL.out; omega))
        have HY8 := Lib.hid (HY7.out.but hb.out (by have := HGB.out; have := HNY.out; omega))
        have HR8 := Lib.hid (HR7.out.but hb.out (by have := HGB.out; have := HRL.out; omega))
        have HB8 := Lib.hid (show Below w.heap.size w w5 from But.toBelow HB7.out hb.out (by have := HGB.out; have := HBL.out; omega) HB7.out.size)
        have HA8 := Lib.hid (HA7.out.but hb.out HAZ.out)
        have HZ8 := Lib.hid (show Blk gb 61 .u8 y w5 from hc.out)
        clear hc hb HX7 HY7 HR7 HB7 HZ7 HA7
        have HBIT := Shut.mk (bit_one c)
        by_cases hpar : c % 2 = 0
        · have h4 : bits .and .i64 c 1 = 0 := HBIT.out.trans hpar
          clear HBIT
          have HST := Shut.mk (show stepN z y c k = upN z y ((k + 1 : Nat) : Int) (c / 2) by unfold stepN; rw [if_pos hpar])
          go_wp2_with (first
            | (refine wpList_load_nums rfl 61 _ rfl ga .u8 _ 61 _ rfl HA8.out Tryd.underlying61 rfl HIZ.out ?_)
            | (refine wpList_load_nums rfl 61 _ rfl gb .u8 _ 61 _ rfl HZ8.out Tryd.underlying61 rfl HIY.out ?_))
          refine (dev_up z y ((k + 1 : Nat) : Int) (c / 2) _ HCL.out HCT.out HY1.out HY2.out (by omega) (by omega) (by omega) (by omega) (HK.out.below HB8.out)).mono ?_
          rintro e w8 ⟨rfl, hb8⟩
          have HX11 := Lib.hid (HX8.out.below hb8)
          have HR11 := Lib.hid (HR8.out.below hb8)
          have HB11 := Lib.hid (HB8.out.trans (hb8.mono HB8.out.size))
          clear hb8 HX8 HR8 HB8 HA8 HZ8
          have HUL0 := upN_len z y ((k + 1 : Nat) : Int) (c / 2)
          obtain ⟨U, hU⟩ : ∃ U, upN z y ((k + 1 : Nat) : Int) (c / 2) = U := ⟨_, rfl⟩
          rw [hU] at HST HUL0 ⊢
          have HUL := Lib.hid HUL0
          have HCN := Shut.mk (show climbN x a p (k + 1) = U from HNX.out.trans HST.out)
          clear hU HUL0 HST HNX
          have HIU := Lib.hid (show (Tryd.prog.info? 61).map (·.size) = some U.length by rw [HUL.out]; exact Tryd.infoE)
          have HLU := Lib.hid (show z.length = U.length by rw [HUL.out, HCL.out])
          go_wp2_with (refine wpList_store_nums rfl 61 _ _ rfl rfl gx .u8 _ U 61 rfl rfl HX11.out HIU.out HLU.out ?_)
          intro w9 hc' hb'
          have HX12 := Lib.hid (show Blk gx 61 .u8 U w9 from hc'.out)
          have HR12 := Lib.hid (HR11.out.but hb'.out (Ne.symm HNE.out))
          have HB12 := Lib.hid (show Below w.heap.size w w9 from But.toBelow HB11.out hb'.out HGX.out HB11.out.size)
          clear hc' hb'
          go_wp2_with fail
          exact ⟨⟨k + 1, by omega, by go_num, by rw [← HHN.out], by rw [HCN.out]; exact HX12.out, HR12.out, HB12.out⟩, by simp [intOf]; omega⟩
        · have h4 : bits .and .i64 c 1 = 1 := HBIT.out.trans (by omega)
          clear HBIT
          go_upto_region 7 with (fail)
          have HLZY := Lib.hid (show y.length = z.length by rw [HY1.out, HCL.out])
          have NY := Lib.hid (show gy ≠ ga by have := HGA.out; have := HNY.out; omega)
          have NX := Lib.hid (show gx ≠ ga by have := HGA.out; have := HXL.out; omega)
          have NR := Lib.hid (show gr ≠ ga by have := HGA.out; have := HRL.out; omega)
          refine wp_region_free 3 (fun s V w' => But ga w5 w' ∧ Val s V 0 (.agg (nums .u8 y).toArray) ∧ Val s V 1 (.agg (nums .u8 z).toArray) ∧ ∃ q, Blk ga 61 .u8 q w' ∧ q.length = 16 ∧ (s 2 = true → q = y)) (fun | 0 => u25 | 1 => u26 | _ => undef) (by kernel_rfl) (by kernel_rfl) (by kernel_rfl) rfl ⟨(But.refl _ _).drew, Val.none, Val.none, z, HA8.out, HCL.out, fun h => by cases h⟩ ?_ ?_
          · simp only [List.take_succ_cons, List.take_zero, putAll, Nat.zero_add, Act.put, List.setIfInBounds_toArray, List.set_cons_zero, List.set_cons_succ]
            refine FreeSteps.cons ?_ (FreeSteps.cons ?_ (FreeSteps.cons ?_ FreeSteps.nil))
            all_goals (refine FreeStep.plain rfl ?_; rintro s V wq hr ⟨hB, h0, h1, q, hq, hql, hqe⟩ K hK)
            · exact op_load_nums 61 (.tmp 9) rfl gy .u8 y 61 _ rfl (HY8.out.but hB NY.out) Tryd.underlying61 rfl HIY.out (hK _ _ ⟨hB, .same, h1.ne (by decide), q, hq, hql, fun h => hqe (seen_ne (by decide) h)⟩)
            · exact op_load_nums 61 (.tmp 7) rfl gx .u8 z 61 _ rfl (HX8.out.but hB NX.out) Tryd.underlying61 rfl HIZ.out (hK _ _ ⟨hB, h0.ne (by decide), .same, q, hq, hql, fun h => hqe (seen_ne (by decide) h)⟩)
            · refine op_store_nums 61 (.tmp 10) (.tmp 25) rfl ga .u8 q y 61 rfl (h0 (hr { on := 0, ground := .data } (by simp) rfl)) hq HIY.out (by rw [hql, HY1.out]) ?_
              intro w' hc hb
              exact hK _ _ ⟨hB.trans hb, h0.ne (by decide), h1.ne (by decide), y, hc, HY1.out, fun _ => rfl⟩
          rintro s V w7 hall ⟨hB, h0, h1, q, hq, hql, hqe⟩
          have v0 := h0 (hall 0 (by decide))
          have v1 := h1 (hall 1 (by decide))
          rw [hqe (hall 2 (by decide))] at hq
          simp only [List.take_succ_cons, List.take_zero, List.drop_succ_cons, List.drop_zero, putAll, Nat.zero_add, v0, v1, Act.put, List.setIfInBounds_toArray, List.set_cons_zero, List.set_cons_succ]
          clear h0 h1 v0 v1 hall
          have HX10 := Lib.hid (HX8.out.but hB NX.out)
          have HR10 := Lib.hid (HR8.out.but hB NR.out)
          have HZ10 := Lib.hid (HZ8.out.but hB (Ne.symm HAZ.out))
          have HA10 := Lib.hid (show Blk ga 61 .u8 y w7 from hq)
          have HB10 := Lib.hid (show Below w.heap.size w w7 from But.toBelow HB8.out hB (by have := HGA.out; have := HBL.out; omega) HB8.out.size)
          clear hB hq hql hqe HX8 HY8 HR8 HA8 HZ8 HB8 NY NX NR
          go_wp2_with (refine wpList_store_nums rfl 61 _ _ rfl rfl gb .u8 _ z 61 rfl rfl HZ10.out HIZ.out HLZY.out ?_)
          intro w8 hc hb
          have HX13 := Lib.hid (HX10.out.but hb.out (by have := HGB.out; have := HXL.out; omega))
          have HR13 := Lib.hid (HR10.out.but hb.out (by have := HGB.out; have := HRL.out; omega))
          have HB13 := Lib.hid (show Below w.heap.size w w8 from But.toBelow HB10.out hb.out (by have := HGB.out; have := HBL.out; omega) HB10.out.size)
          have HA13 := Lib.hid (HA10.out.but hb.out HAZ.out)
          have HZ13 := Lib.hid (show Blk gb 61 .u8 z w8 from hc.out)
          clear hc hb HX10 HR10 HB10 HZ10 HA10
          have HST := Shut.mk (show stepN z y c k = upN y z ((k + 1 : Nat) : Int) (c / 2) by unfold stepN; rw [if_neg hpar])
          go_wp2_with (first
            | (refine wpList_load_nums rfl 61 _ rfl ga .u8 _ 61 _ rfl HA13.out Tryd.underlying61 rfl HIY.out ?_)
            | (refine wpList_load_nums rfl 61 _ rfl gb .u8 _ 61 _ rfl HZ13.out Tryd.underlying61 rfl HIZ.out ?_))
          refine (dev_up y z ((k + 1 : Nat) : Int) (c / 2) _ HY1.out HY2.out HCL.out HCT.out (by omega) (by omega) (by omega) (by omega) (HK.out.below HB13.out)).mono ?_
          rintro e w8 ⟨rfl, hb8⟩
          have HX11 := Lib.hid (HX13.out.below hb8)
          have HR11 := Lib.hid (HR13.out.below hb8)
          have HB11 := Lib.hid (HB13.out.trans (hb8.mono HB13.out.size))
          clear hb8 HX13 HR13 HB13 HA13 HZ13
          have HUL0 := upN_len y z ((k + 1 : Nat) : Int) (c / 2)
          obtain ⟨U, hU⟩ : ∃ U, upN y z ((k + 1 : Nat) : Int) (c / 2) = U := ⟨_, rfl⟩
          rw [hU] at HST HUL0 ⊢
          have HUL := Lib.hid HUL0
          have HCN := Shut.mk (show climbN x a p (k + 1) = U from HNX.out.trans HST.out)
          clear hU HUL0 HST HNX
          have HIU := Lib.hid (show (Tryd.prog.info? 61).map (·.size) = some U.length by rw [HUL.out]; exact Tryd.infoE)
          have HLU := Lib.hid (show z.length = U.length by rw [HUL.out, HCL.out])
          go_wp2_with (refine wpList_store_nums rfl 61 _ _ rfl rfl gx .u8 _ U 61 rfl rfl HX11.out HIU.out HLU.out ?_)
          intro w9 hc' hb'
          have HX12 := Lib.hid (show Blk gx 61 .u8 U w9 from hc'.out)
          have HR12 := Lib.hid (HR11.out.but hb'.out (Ne.symm HNE.out))
          have HB12 := Lib.hid (show Below w.heap.size w w9 from But.toBelow HB11.out hb'.out HGX.out HB11.out.size)
          clear hc' hb'
          go_wp2_with fail
          exact ⟨⟨k + 1, by omega, by go_num, by rw [← HHN.out], by rw [HCN.out]; exact HX12.out, HR12.out, HB12.out⟩, by simp [intOf]; omega⟩
    · obtain rfl : k = p.length := by omega
      have HIZ := Lib.hid (show (Tryd.prog.info? 61).map (·.size) = some (climbN x a p p.length).length by rw [HCL.out]; exact Tryd.infoE)
      have HLZ := Lib.hid (show (List.replicate 16 0).length = (climbN x a p p.length).length by rw [HCL.out]; rfl)
      obtain ⟨z, hz⟩ : ∃ z, climbN x a p p.length = z := ⟨_, rfl⟩
      rw [hz] at HXK HIZ HLZ
      have HZ := Shut.mk hz
      clear hxk hrk hb hz HCL HCT
      go_wp2_with (first
        | (refine wpList_load_nums rfl 61 _ rfl gx .u8 _ 61 _ rfl HXK.out Tryd.underlying61 rfl HIZ.out ?_)
        | (refine wpList_store_nums rfl 61 _ _ rfl rfl gr .u8 _ z 61 rfl rfl HRK.out HIZ.out HLZ.out ?_))
      intro w7 hc' hb'
      have HC7 := Lib.hid (show Blk gr 61 .u8 z w7 from hc'.out)
      have HB7 := Lib.hid (show Below w.heap.size w w7 from But.toBelow HB.out hb'.out HGR.out HB.out.size)
      clear hc' hb'
      go_wp2_with fail
      exact bodyPost_ret (results_nums rfl _ _ gr .u8 _ 61 _ rfl HC7.out Tryd.underlying61 rfl HIZ.out) rfl ⟨by rw [HZ.out], HB7.out⟩
end Go.Proofs.YtpfhlhcnmeodbaaDoor
