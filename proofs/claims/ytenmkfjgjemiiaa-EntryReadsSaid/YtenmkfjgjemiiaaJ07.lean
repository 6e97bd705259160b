/-
  Joined: The document's Read of layer 15. Written by entry/gen/gen_rdr.py.; The document's Texts, ReadAll, Same of layer 15.; The document's Same of layer 15.; The walk of EntryReads.; The law EntryReads: for every input it answers true, and its arguments read as they did. No condition.
-/
import Derived.Test.YtenmkfjgjemiiaaJ04
import Derived.Test.YtenmkfjgjemiiaaJ05
import Derived.Test.YtenmkfjgjemiiaaJ06
namespace Go.Proofs.Ytenmkfjgjemiiaa
open Go.RowKit Go.BigFrame
def RdE (o : Option EntN) : Value := .tuple #[.agg (entV (o.getD noE)), .bool o.isSome]
theorem strsG {ao : Option Addr} {l : List (List UInt8)} {w : World} (h : StrsAt ao l w) (h0 : l ≠ []) : ∃ g o, ao = some ⟨g, o, none⟩ ∧ g < w.heap.size ∧ ∀ i (hi : i < l.length), w.cell? ⟨g, o + i, none⟩ = some (.string ⟨l[i].toArray⟩) := by
  rcases h with h | ⟨b, o, ha, hb, hc⟩
  · exact absurd h h0
  · exact ⟨b, o, ha, hb, hc⟩
theorem readE_cand {s : List UInt8} {l : List (List UInt8)} (h : splitB s = some l) : readE s = if GoodE (candE l) then some (candE l) else none := by
  rw [readE, h]
theorem bad_kind (k : Int) : ¬ GoodE { noE with kind := k } := by
  rintro (h | h | h)
  · exact noD_bad h.2.1
  · have := h.2.1.1; simp [noE] at this
  · have := h.2.1.1; simp [noE] at this
theorem readE_else {s : List UInt8} {a b : List UInt8} {l : List (List UInt8)} (h : splitB s = some (a :: b :: l)) (h1 : ¬ (numI a = 1 ∧ l.length = 0)) (h3 : ¬ (numI a = 3 ∧ l.length = 1)) (h2 : ¬ (numI a = 2 ∧ l.length = 5 ∧ ((a :: b :: l).getD 3 []).length = 32)) : readE s = none := by
  rw [readE_cand h, if_neg]
  have : candE (a :: b :: l) = noE := by
    match l, h1, h2, h3 with
    | [], h1, _, _ => simp only [candE]; rw [if_neg (fun e => h1 ⟨e, rfl⟩)]
    | [_], _, _, h3 => simp only [candE]; rw [if_neg (fun e => h3 ⟨e, rfl⟩)]
    | [_, _], _, _, _ => rfl
    | [_, _, _], _, _, _ => rfl
    | [_, _, _, _], _, _, _ => rfl
    | [_, _, _, _, _], _, h2, _ => simp only [candE]; rw [if_neg (fun e => h2 ⟨e.1, rfl, e.2⟩)]
    | _ :: _ :: _ :: _ :: _ :: _ :: _, _, _, _ => rfl
  rw [this]
  exact noE_bad
theorem idP_ok {s : List UInt8} (hs : s.length = 32) {k : Nat} (hk : k ≤ 32) : IdOk (idP s k) := ⟨idP_len hs hk, fun x hx => by
  rcases List.mem_append.1 hx with hx | hx
  · exact byteNs_lt _ x (List.mem_of_mem_take hx)
  · rw [(List.mem_replicate.1 hx).2]; decide⟩
set_option maxHeartbeats 8000000 in
set_option maxRecDepth 100000 in
theorem ref_read15 (s : List UInt8) (w : World) (hm : s.length ≤ 140737488351232) :
    Calls Try.prog 19 #[.string ⟨s.toArray⟩] w fun e w' => e = .returned (RdE (readE s)) ∧ Below w.heap.size w w' := by
  have HS := Lib.hid (sizeEV noE_ok)
  have HZE := Lib.hid (show (Try.prog.info? 30).bind (·.zero) = some (.agg (entL noE).toArray) by kernel_rfl)
  have HZD := Lib.hid (show (Try.prog.info? 28).bind (·.zero) = some (.agg (draftL zeroD).toArray) by kernel_rfl)
  have HM := Lib.hid hm
  clear hm
  go_enter Try.func19, Try.ntmps19
  go_upto_region 1 with (first | (refine wpList_alloc_of rfl 30 rfl (entL noE) HZE.out ?_))
  have hx : Cells w.heap.size 30 (entV noE) (w.alloc (.cells (entV noE) 30)) := heap_alloc_new w _
  have hb : Below w.heap.size w (w.alloc (.cells (entV noE) 30)) := (Below.refl _ _).alloc (Nat.le_refl _) _
  change Code.wp _ _ _ _ (w.alloc (.cells (entV noE) 30))
  obtain ⟨w1, hw1⟩ : ∃ x, x = w.alloc (.cells (entV noE) 30) := ⟨_, rfl⟩
  rw [← hw1] at hx hb ⊢
  have HX := Lib.hid hx
  have HB := Lib.hid hb
  clear hw1 hx hb
  go_wp2_with fail
  obtain ⟨q, hq⟩ : ∃ q, splitB s = q := ⟨_, rfl⟩
  have HL := Shut.mk hq
  have hcc := rsplit_any s w1 (by have := HM.out; omega)
  rw [hq] at hcc
  clear hq
  refine hcc.mono ?_
  rintro e w2 ⟨⟨v, rfl, ho⟩, hb⟩
  obtain ⟨ao, cq, rfl⟩ := ho.form
  have HX2 := Lib.hid (HX.out.below hb)
  have HB2 := Lib.hid (HB.out.trans (hb.mono HB.out.size))
  have HSA := Lib.hid (strsAt_own ho)
  have HRL := Lib.hid HX2.out.lt
  clear hcc ho hb HX HB
  cases q with
  | none =>
    simp only [Option.getD_none, List.length_nil, Option.isSome_none]
    have HR := Shut.mk (show readE s = none by rw [readE, HL.out])
    clear HSA
    go_upto_region 3 with (first | (refine wpList_alloc_of rfl 30 rfl (entL noE) HZE.out ?_))
    have hx : Cells w2.heap.size 30 (entV noE) (w2.alloc (.cells (entV noE) 30)) := heap_alloc_new w2 _
    have hb : Below w2.heap.size w2 (w2.alloc (.cells (entV noE) 30)) := (Below.refl _ _).alloc (Nat.le_refl _) _
    change Code.wp _ _ _ _ (w2.alloc (.cells (entV noE) 30))
    obtain ⟨gE, hgE⟩ : ∃ g, w2.heap.size = g := ⟨_, rfl⟩
    have HX3 := Lib.hid (HX2.out.below hb)
    have HB3 := Lib.hid (HB2.out.trans (hb.mono HB2.out.size))
    rw [hgE] at hx ⊢
    have HEE := Lib.hid hx
    obtain ⟨w3, hw3⟩ : ∃ x, x = w2.alloc (.cells (entV noE) 30) := ⟨_, rfl⟩
    rw [← hw3] at HX3 HB3 HEE ⊢
    clear hx hb hgE hw3 HX2 HB2
    go_wp2_with (first | (refine wpList_load_cells rfl 30 _ rfl gE (entV noE) 30 _ rfl HEE.out Try.underlying30 rfl HS.out ?_) | (refine wpList_store_cells rfl 30 _ _ rfl rfl w.heap.size (entV noE) (entV noE) 30 rfl rfl HX3.out HS.out rfl (entV_all noE) ?_))
    intro w9 hc hb
    have HX9 := Lib.hid hc.out
    have HB9 := Lib.hid (show Below w.heap.size w w9 from But.toBelow HB3.out hb.out (Nat.le_refl _) HB3.out.size)
    clear hc hb HX3 HB3
    go_wp2_with fail
    refine bodyPost_ret (results_cells_tmp rfl _ _ w.heap.size (entV noE) 30 _ _ rfl rfl HX9.out Try.underlying30 rfl HS.out) rfl ?_
    exact ⟨by rw [HR.out]; rfl, HB9.out⟩
  | some l =>
    simp only [Option.getD_some, Option.isSome_some] at HSA ⊢
    have HLR := Lib.hid (split_parts HL.out)
    obtain ⟨n, hn⟩ : ∃ n, l.length = n := ⟨_, rfl⟩
    rw [hn]
    have HN := Shut.mk hn
    go_upto_region 3 with (first | (refine wpList_alloc_of rfl 30 rfl (entL noE) HZE.out ?_))
    have hx : Cells w2.heap.size 30 (entV noE) (w2.alloc (.cells (entV noE) 30)) := heap_alloc_new w2 _
    have hb : Below w2.heap.size w2 (w2.alloc (.cells (entV noE) 30)) := (Below.refl _ _).alloc (Nat.le_refl _) _
    change Code.wp _ _ _ _ (w2.alloc (.cells (entV noE) 30))
    obtain ⟨gE, hgE⟩ : ∃ g, w2.heap.size = g := ⟨_, rfl⟩
    rw [hgE] at hx hb HRL ⊢
    have HGE := Lib.hid (show w2.heap.size ≤ gE by omega)
    have HEE := Lib.hid hx
    have HB3 := Lib.hid hb
    obtain ⟨w3, hw3⟩ : ∃ x, x = w2.alloc (.cells (entV noE) 30) := ⟨_, rfl⟩
    rw [← hw3] at HB3 HEE ⊢
    have HQ := Shut.mk hgE
    clear hx hb hgE hw3
    by_cases h2 : n < 2
    · have h2i : (n : Int) < 2 := by omega
      have HR := Shut.mk (show readE s = none by
        rw [readE_cand HL.out, if_neg]
        match l, hn with
        | [], _ => exact noE_bad
        | [_], _ => exact noE_bad
        | _ :: _ :: _, hn => simp only [List.length_cons] at hn; omega)
      have HX3 := Lib.hid (HX2.out.below (by rw [HQ.out]; exact HB3.out))
      have HB3' := Lib.hid (HB2.out.trans (HB3.out.mono (by rw [← HQ.out]; exact HB2.out.size)))
      clear HX2 HB2
      go_wp2_with (first | (refine wpList_load_cells rfl 30 _ rfl gE (entV noE) 30 _ rfl HEE.out Try.underlying30 rfl HS.out ?_) | (refine wpList_store_cells rfl 30 _ _ rfl rfl w.heap.size (entV noE) (entV noE) 30 rfl rfl HX3.out HS.out rfl (entV_all noE) ?_))
      intro w9 hc hb
      have HX9 := Lib.hid hc.out
      have HB9 := Lib.hid (show Below w.heap.size w w9 from But.toBelow HB3'.out hb.out (Nat.le_refl _) HB3'.out.size)
      clear hc hb HX3 HB3'
      go_wp2_with fail
      refine bodyPost_ret (results_cells_tmp rfl _ _ w.heap.size (entV noE) 30 _ _ rfl rfl HX9.out Try.underlying30 rfl HS.out) rfl ?_
      exact ⟨by rw [HR.out]; rfl, HB9.out⟩
    have h2i : ¬ (n : Int) < 2 := by omega
    obtain ⟨t0, t1, l', rfl⟩ : ∃ a b r, l = a :: b :: r := by
      match l, hn with
      | [], h => simp only [List.length_nil] at h; omega
      | [_], h => simp only [List.length_cons, List.length_nil] at h; omega
      | a :: b :: r, _ => exact ⟨a, b, r, rfl⟩
    obtain ⟨g, og, rfl, hg, hcell⟩ := strsG HSA.out (by simp)
    have hn2 : l'.length + 2 = n := by rw [← hn]; rfl
    have HG := Lib.hid hg
    have HCL := Lib.hid hcell
    have HCE := Lib.hid (fun (w' : World) (k : Below gE w3 w') (i : Nat) (hi : i < (t0 :: t1 :: l').length) => show w'.cell? ⟨g, og + i, none⟩ = some (.string ⟨((t0 :: t1 :: l')[i]).toArray⟩) from (k.cell (p := ⟨g, og + i, none⟩) (by rw [← HQ.out]; exact hg)).trans ((HB3.out.cell (p := ⟨g, og + i, none⟩) (by rw [← HQ.out]; exact hg)).trans (hcell i hi)))
    have HXE := Lib.hid (fun (w' : World) (k : Below gE w3 w') => show Cells w.heap.size 30 (entV noE) w' from (k.block _ HRL).trans ((HB3.out.block _ HRL).trans HX2.out))
    have HBE := Lib.hid (fun (w' : World) (k : Below gE w3 w') => show Below w.heap.size w w' from HB2.out.trans ((HB3.out.trans k).mono (by have := HB2.out.size; rw [← HQ.out]; exact this)))
    have HE3 := Lib.hid (show gE < w3.heap.size from HEE.out.lt)
    clear hg hcell HSA HX2 HB2 HRL hn HCL HG HGE HB3
    have cs0 := HCE.out w3 (Below.refl _ _) 0 (by simp)
    simp only [List.getElem_cons_zero, Nat.add_zero] at cs0
    have hb0 : (0 : Int) < (n : Int) := by omega
    obtain ⟨k, hk⟩ : ∃ k, numI t0 = k := ⟨_, rfl⟩
    have HK := Shut.mk hk
    have HN0 := Lib.hid (ref_num15 t0 w3 (by have := HLR.out t0 (by simp); omega))
    rw [hk] at HN0
    clear hk
    go_wp2_with fail
    refine HN0.out.mono ?_
    rintro e w4 ⟨rfl, hb⟩
    have HEE4 := Lib.hid (HEE.out.below hb)
    have HB4 := Lib.hid (hb.mono (Nat.le_of_lt HE3.out))
    clear hb HEE HN0 cs0
    have c0 := (ent_cells noE_ok HEE4.out).1
    have f0 := HEE4.out.frozen 0
    go_upto_region 6 with (fail)
    have he5 := HEE4.out.set 0 (.int .i64 k)
    rw [set_kind] at he5
    have hb5 : Below gE w3 (w4.setCell ⟨gE, 0, none⟩ (.int .i64 k)) := But.toBelow HB4.out ((But.refl gE w4).setCell 0 _) (Nat.le_refl _) (by have := HB4.out.size; have := HE3.out; omega)
    obtain ⟨w5, hw5⟩ : ∃ x, x = w4.setCell ⟨gE, 0, none⟩ (.int .i64 k) := ⟨_, rfl⟩
    rw [← hw5] at he5 hb5 ⊢
    have HEE5 := Lib.hid he5
    have HB5 := Lib.hid hb5
    have HOK5 := Lib.hid (show ({ noE with kind := k } : EntN).Ok from ⟨zeroI_ok, zeroI_ok⟩)
    clear he5 hb5 hw5 c0 f0 HEE4 HB4
    have HN2 := Shut.mk hn2
    by_cases k1 : k = 1
    · have g1 : (k == 1) = true := by simp [k1]
      have g3 : (k == 3) = false := by simp [k1]
      have g2 : (k == 2) = false := by simp [k1]
      by_cases n2 : n = 2
      · have hni : ((n : Int) == 2) = true := by simp [n2]
        obtain rfl : l' = [] := List.length_eq_zero_iff.1 (by omega)
        have c0 := (ent_cells HOK5.out HEE5.out).1
        have cs1 := HCE.out w5 HB5.out 1 (by simp)
        simp only [List.getElem_cons_succ, List.getElem_cons_zero] at cs1
        have hb1 : (1 : Int) < (n : Int) := by omega
        obtain ⟨od, hod⟩ : ∃ x, readD t1 = x := ⟨_, rfl⟩
        have HOD := Shut.mk hod
        have HRD := Lib.hid (ref_readDraft t1 w5 (by have := HLR.out t1 (by simp); omega))
        rw [hod] at HRD
        clear hod
        have HCA := Shut.mk (show candE [t0, t1] = ⟨1, od.getD noD, 0, 0, zeroI, 0, [], []⟩ by simp only [candE]; rw [if_pos (HK.out.trans k1), HOD.out])
        have HDOK := Lib.hid (show IdOk (od.getD zeroD).ref by
          cases od with
          | none => exact zeroI_ok
          | some d => exact (readD_some HOD.out).2.2.1)
        have HDS := Lib.hid (show (Try.prog.info? 28).map (·.size) = some (draftV (od.getD zeroD)).size by rw [draftV_size HDOK.out.1]; exact Try.sizeD)
        have HDZ := Lib.hid (show (draftV zeroD).size = (draftV (od.getD zeroD)).size by rw [draftV_size HDOK.out.1]; rfl)
        go_wp2_with fail
        refine HRD.out.mono ?_
        rintro e w6 ⟨rfl, hb⟩
        have HE6 := Lib.hid (HEE5.out.below hb)
        have HB6 := Lib.hid (HB5.out.trans (hb.mono (by have := HB5.out.size; have := HE3.out; omega)))
        clear hb HEE5 HB5 HRD c0 cs1
        unfold RdD
        go_wp2_with (first
          | (refine wpList_alloc_of rfl 28 rfl (draftL zeroD) HZD.out ?_)
          | (refine wpList_store_cells rfl 28 _ _ rfl rfl w6.heap.size (draftV zeroD) (draftV (od.getD zeroD)) 28 rfl rfl (heap_alloc_new w6 _) HDS.out HDZ.out (draftV_all _) ?_))
        intro w7 hc hb
        have hb7 : Below w6.heap.size w6 w7 := But.toBelow ((Below.refl _ w6).alloc (Nat.le_refl _) _) hb.out (Nat.le_refl _) (by rw [World.size_alloc]; exact Nat.le_succ _)
        have HD7 := Lib.hid hc.out
        have HE7 := Lib.hid (HE6.out.below hb7)
        have HB7 := Lib.hid (HB6.out.trans (hb7.mono (by have := HB6.out.size; have := HE3.out; omega)))
        obtain ⟨gD, hgD⟩ : ∃ g, w6.heap.size = g := ⟨_, rfl⟩
        rw [hgD] at HD7 ⊢
        clear hc hb hb7 hgD HE6 HB6
        cases od with
        | none =>
          simp only [Option.isSome_none]
          have HR := Shut.mk (show readE s = none by
            rw [readE_cand HL.out, HCA.out, if_neg]
            rintro (h | h | h)
            · exact noD_bad h.2.1
            · exact absurd h.1 (by simp)
            · exact absurd h.1 (by simp))
          have HX8 := Lib.hid (HXE.out w7 HB7.out)
          have HB8 := Lib.hid (HBE.out w7 HB7.out)
          clear HE7 HB7 HD7
          go_wp2_with (first | (refine wpList_build_val rfl 30 #[] rfl [] _ (by simp) built_ent0 ?_) | (refine wpList_store_cells rfl 30 _ _ rfl rfl w.heap.size (entV noE) (entV noE) 30 rfl rfl HX8.out HS.out rfl (entV_all noE) ?_))
          intro w9 hc hb
          have HX9 := Lib.hid hc.out
          have HB9 := Lib.hid (show Below w.heap.size w w9 from But.toBelow HB8.out hb.out (Nat.le_refl _) HB8.out.size)
          clear hc hb HX8 HB8
          go_wp2_with fail
          refine bodyPost_ret (results_cells_tmp rfl _ _ w.heap.size (entV noE) 30 _ _ rfl rfl HX9.out Try.underlying30 rfl HS.out) rfl ?_
          exact ⟨by rw [HR.out]; rfl, HB9.out⟩
        | some d =>
          simp only [Option.isSome_some]
          have HDD := Lib.hid (show IdOk d.ref from HDOK.out)
          have HDT := Lib.hid (show (Try.prog.info? 28).map (·.size) = some (draftV d).size from HDS.out)
          have HTH := Lib.hid (show w7.there gE 1 (draftV d).size from HE7.out.there (by rw [entV_size HOK5.out, draftV_size HDD.out.1]; decide))
          go_upto_region 11 with (first
            | (refine wpList_load_cells rfl 28 _ rfl gD (draftV d) 28 _ rfl HD7.out Try.underlying28 rfl HDT.out ?_)
            | (refine wpList_store_mid rfl 28 _ _ rfl gE 1 (draftV d) rfl rfl HTH.out HDT.out (draftV_all d) ?_))
          have he8 := Cells.lay (draftL d) (entL { noE with kind := k }) 1 w7 HE7.out
          rw [lay_draft _ HOK5.out d HDD.out] at he8
          have hb8 : Below gE w3 (w7.setCells gE 1 (draftL d)) := But.toBelow HB7.out (But.cells _ _ _ (But.refl gE w7)) (Nat.le_refl _) (by have := HB7.out.size; have := HE3.out; omega)
          change Code.wp _ _ _ _ (w7.setCells gE 1 (draftL d))
          obtain ⟨wa, hwa⟩ : ∃ x, x = w7.setCells gE 1 (draftL d) := ⟨_, rfl⟩
          rw [← hwa] at he8 hb8 ⊢
          have HEa := Lib.hid (show Cells gE 30 (entV { noE with kind := k, d := d }) wa from he8)
          have HBa := Lib.hid hb8
          clear he8 hb8 hwa HE7 HB7 HD7 HTH
          have c0 := (ent_cells (e := { noE with kind := k, d := d }) ⟨HDD.out, zeroI_ok⟩ HEa.out).1
          have HLN0 := Lib.hid (show ({ noE with kind := k, d := d } : EntN).Len from ⟨⟨HDD.out, zeroI_ok⟩, by
            have h := (readD_some HOD.out).2.1
            exact Nat.le_trans h.2.2.2.1 (by decide), by
            have h := (readD_some HOD.out).2.1
            exact Nat.le_trans h.2.2.2.2.1 (by decide), Nat.zero_le _, Nat.zero_le _⟩)
          have HC0 := Lib.hid c0
          have HRR := Shut.mk (show readE s = if GoodE ({ noE with kind := k, d := d }) then some ({ noE with kind := k, d := d }) else none from by rw [readE_cand HL.out, HCA.out, k1]; rfl)
          obtain ⟨cur, hcur⟩ : ∃ x, x = ({ noE with kind := k, d := d } : EntN) := ⟨_, rfl⟩
          have HLEN := Lib.hid (show cur.Len by rw [hcur]; exact HLN0.out)
          rw [← hcur] at HRR HEa
          have HCU := Shut.mk hcur
          clear hcur HLN0
          have HSC := Lib.hid (sizeEV HLEN.out.ok)
          go_wp2_with (refine wpList_load_cells rfl 30 _ rfl gE (entV cur) 30 _ rfl HEa.out Try.underlying30 rfl HSC.out ?_)
          refine (ref_good15 cur HLEN.out wa).mono ?_
          rintro e w8 ⟨rfl, hb⟩
          have HE8 := Lib.hid (HEa.out.below hb)
          have hb8 : Below gE w3 w8 := HBa.out.trans (hb.mono (by have := HBa.out.size; have := HE3.out; omega))
          have HX8 := Lib.hid (HXE.out w8 hb8)
          have HB8 := Lib.hid (HBE.out w8 hb8)
          clear hb hb8 HEa HBa
          by_cases hg : GoodE cur
          · rw [decide_eq_true hg]
            have HR := Shut.mk (HRR.out.trans (if_pos hg))
            clear hg HRR
            go_wp2_with (first | (refine wpList_load_cells rfl 30 _ rfl gE (entV cur) 30 _ rfl HE8.out Try.underlying30 rfl HSC.out ?_) | (refine wpList_store_cells rfl 30 _ _ rfl rfl w.heap.size (entV noE) (entV cur) 30 rfl rfl HX8.out HSC.out (by rw [entV_size HLEN.out.ok]; rfl) (entV_all cur) ?_))
            intro w9 hc hb
            have HX9 := Lib.hid hc.out
            have HB9 := Lib.hid (show Below w.heap.size w w9 from But.toBelow HB8.out hb.out (Nat.le_refl _) HB8.out.size)
            clear hc hb HX8 HB8
            go_wp2_with fail
            refine bodyPost_ret (results_cells_tmp rfl _ _ w.heap.size (entV cur) 30 _ _ rfl rfl HX9.out Try.underlying30 rfl HSC.out) rfl ?_
            exact ⟨by rw [HR.out]; rfl, HB9.out⟩
          · rw [decide_eq_false hg]
            have HR := Shut.mk (HRR.out.trans (if_neg hg))
            clear hg HRR
            go_wp2_with (first | (refine wpList_build_val rfl 30 #[] rfl [] _ (by simp) built_ent0 ?_) | (refine wpList_store_cells rfl 30 _ _ rfl rfl w.heap.size (entV noE) (entV noE) 30 rfl rfl HX8.out HS.out rfl (entV_all noE) ?_))
            intro w9 hc hb
            have HX9 := Lib.hid hc.out
            have HB9 := Lib.hid (show Below w.heap.size w w9 from But.toBelow HB8.out hb.out (Nat.le_refl _) HB8.out.size)
            clear hc hb HX8 HB8
            go_wp2_with fail
            refine bodyPost_ret (results_cells_tmp rfl _ _ w.heap.size (entV noE) 30 _ _ rfl rfl HX9.out Try.underlying30 rfl HS.out) rfl ?_
            exact ⟨by rw [HR.out]; rfl, HB9.out⟩
      · have hni : ((n : Int) == 2) = false := by simp; omega
        have HLN0 := Lib.hid (show ({ noE with kind := k } : EntN).Len from ⟨HOK5.out, Nat.zero_le _, Nat.zero_le _, Nat.zero_le _, Nat.zero_le _⟩)
        have c0 := (ent_cells HOK5.out HEE5.out).1
        have HRR := Shut.mk (show readE s = if GoodE ({ noE with kind := k }) then some ({ noE with kind := k }) else none from by rw [if_neg (bad_kind k)]; exact (readE_else HL.out (fun h => n2 (by have := HN2.out; omega)) (fun h => by have := HK.out; omega) (fun h => by have := HK.out; omega)))
        obtain ⟨cur, hcur⟩ : ∃ x, x = ({ noE with kind := k } : EntN) := ⟨_, rfl⟩
        have HLEN := Lib.hid (show cur.Len by rw [hcur]; exact HLN0.out)
        rw [← hcur] at HRR HEE5
        have HCU := Shut.mk hcur
        clear hcur HLN0
        have HSC := Lib.hid (sizeEV HLEN.out.ok)
        go_wp2_with (refine wpList_load_cells rfl 30 _ rfl gE (entV cur) 30 _ rfl HEE5.out Try.underlying30 rfl HSC.out ?_)
        refine (ref_good15 cur HLEN.out w5).mono ?_
        rintro e w8 ⟨rfl, hb⟩
        have HE8 := Lib.hid (HEE5.out.below hb)
        have hb8 : Below gE w3 w8 := HB5.out.trans (hb.mono (by have := HB5.out.size; have := HE3.out; omega))
        have HX8 := Lib.hid (HXE.out w8 hb8)
        have HB8 := Lib.hid (HBE.out w8 hb8)
        clear hb hb8 HEE5 HB5
        by_cases hg : GoodE cur
        · rw [decide_eq_true hg]
          have HR := Shut.mk (HRR.out.trans (if_pos hg))
          clear hg HRR
          go_wp2_with (first | (refine wpList_load_cells rfl 30 _ rfl gE (entV cur) 30 _ rfl HE8.out Try.underlying30 rfl HSC.out ?_) | (refine wpList_store_cells rfl 30 _ _ rfl rfl w.heap.size (entV noE) (entV cur) 30 rfl rfl HX8.out HSC.out (by rw [entV_size HLEN.out.ok]; rfl) (entV_all cur) ?_))
          intro w9 hc hb
          have HX9 := Lib.hid hc.out
          have HB9 := Lib.hid (show Below w.heap.size w w9 from But.toBelow HB8.out hb.out (Nat.le_refl _) HB8.out.size)
          clear hc hb HX8 HB8
          go_wp2_with fail
          refine bodyPost_ret (results_cells_tmp rfl _ _ w.heap.size (entV cur) 30 _ _ rfl rfl HX9.out Try.underlying30 rfl HSC.out) rfl ?_
          exact ⟨by rw [HR.out]; rfl, HB9.out⟩
        · rw [decide_eq_false hg]
          have HR := Shut.mk (HRR.out.trans (if_neg hg))
          clear hg HRR
          go_wp2_with (first | (refine wpList_build_val rfl 30 #[] rfl [] _ (by simp) built_ent0 ?_) | (refine wpList_store_cells rfl 30 _ _ rfl rfl w.heap.size (entV noE) (entV noE) 30 rfl rfl HX8.out HS.out rfl (entV_all noE) ?_))
          intro w9 hc hb
          have HX9 := Lib.hid hc.out
          have HB9 := Lib.hid (show Below w.heap.size w w9 from But.toBelow HB8.out hb.out (Nat.le_refl _) HB8.out.size)
          clear hc hb HX8 HB8
          go_wp2_with fail
          refine bodyPost_ret (results_cells_tmp rfl _ _ w.heap.size (entV noE) 30 _ _ rfl rfl HX9.out Try.underlying30 rfl HS.out) rfl ?_
          exact ⟨by rw [HR.out]; rfl, HB9.out⟩
    have g1 : (k == 1) = false := by simp [k1]
    by_cases k3 : k = 3
    · have g3 : (k == 3) = true := by simp [k3]
      have g2 : (k == 2) = false := by simp [k3]
      by_cases n3 : n = 3
      · have hni : ((n : Int) == 3) = true := by simp [n3]
        obtain ⟨t2, rfl⟩ : ∃ a, l' = [a] := by
          match l', hn2 with
          | [a], _ => exact ⟨a, rfl⟩
          | [], h => simp only [List.length_nil] at h; omega
          | _ :: _ :: _, h => simp only [List.length_cons] at h; omega
        have HCA := Shut.mk (show candE [t0, t1, t2] = ⟨3, noD, 0, 0, zeroI, numI t1, t2, []⟩ by simp only [candE]; rw [if_pos (HK.out.trans k3)])
        have c0 := (ent_cells HOK5.out HEE5.out).1
        have cs1 := HCE.out w5 HB5.out 1 (by simp)
        simp only [List.getElem_cons_succ, List.getElem_cons_zero] at cs1
        have hb1 : (1 : Int) < (n : Int) := by omega
        obtain ⟨m, hm⟩ : ∃ k, numI t1 = k := ⟨_, rfl⟩
        have HNM := Lib.hid (ref_num15 t1 w5 (by have := HLR.out t1 (by simp); omega))
        rw [hm] at HNM HCA
        clear hm
        go_wp2_with fail
        refine HNM.out.mono ?_
        rintro e w6 ⟨rfl, hb⟩
        have HE6 := Lib.hid (HEE5.out.below hb)
        have HB6 := Lib.hid (HB5.out.trans (hb.mono (by have := HB5.out.size; have := HE3.out; omega)))
        clear hb HEE5 HB5 HNM c0 cs1
        have c70 := (ent_cells HOK5.out HE6.out).2.2.2.2.2.1
        have f70 := HE6.out.frozen 70
        go_upto_region 13 with (fail)
        have he := HE6.out.set 70 (.int .i64 m)
        rw [set_mask _ HOK5.out] at he
        have hbx : Below gE w3 (w6.setCell ⟨gE, 70, none⟩ (.int .i64 m)) := But.toBelow HB6.out ((But.refl gE w6).setCell _ _) (Nat.le_refl _) (by have := HB6.out.size; have := HE3.out; omega)
        obtain ⟨w7, hwx⟩ : ∃ x, x = w6.setCell ⟨gE, 70, none⟩ (.int .i64 m) := ⟨_, rfl⟩
        rw [← hwx] at he hbx ⊢
        have HE7 := Lib.hid (show Cells gE 30 (entV ({ noE with kind := k, mask := m })) w7 from he)
        have HB7 := Lib.hid hbx
        clear he hbx hwx HE6 HB6
        clear c70 f70
        have HOK7 := Lib.hid (show ({ noE with kind := k, mask := m } : EntN).Ok from ⟨zeroI_ok, zeroI_ok⟩)
        have c71 := (ent_cells HOK7.out HE7.out).2.2.2.2.2.2.1
        have f71 := HE7.out.frozen 71
        have cs2 := HCE.out w7 HB7.out 2 (by simp)
        simp only [List.getElem_cons_succ, List.getElem_cons_zero] at cs2
        have hb2 : (2 : Int) < (n : Int) := by omega
        go_upto_region 14 with (fail)
        have he := HE7.out.set 71 (.string ⟨t2.toArray⟩)
        rw [set_pay _ HOK7.out] at he
        have hbx : Below gE w3 (w7.setCell ⟨gE, 71, none⟩ (.string ⟨t2.toArray⟩)) := But.toBelow HB7.out ((But.refl gE w7).setCell _ _) (Nat.le_refl _) (by have := HB7.out.size; have := HE3.out; omega)
        obtain ⟨wa, hwx⟩ : ∃ x, x = w7.setCell ⟨gE, 71, none⟩ (.string ⟨t2.toArray⟩) := ⟨_, rfl⟩
        rw [← hwx] at he hbx ⊢
        have HEa := Lib.hid (show Cells gE 30 (entV ({ noE with kind := k, mask := m, pay := t2 })) wa from he)
        have HBa := Lib.hid hbx
        clear he hbx hwx HE7 HB7
        clear c71 f71 cs2
        have c0 := (ent_cells (e := { noE with kind := k, mask := m, pay := t2 }) ⟨zeroI_ok, zeroI_ok⟩ HEa.out).1
        have HLN0 := Lib.hid (show ({ noE with kind := k, mask := m, pay := t2 } : EntN).Len from ⟨⟨zeroI_ok, zeroI_ok⟩, Nat.zero_le _, Nat.zero_le _, by
          have h := HLR.out t2 (by simp)
          exact Nat.le_trans h (by decide), Nat.zero_le _⟩)
        have HRR := Shut.mk (show readE s = if GoodE ({ noE with kind := k, mask := m, pay := t2 }) then some ({ noE with kind := k, mask := m, pay := t2 }) else none from by rw [readE_cand HL.out, HCA.out, k3]; rfl)
        obtain ⟨cur, hcur⟩ : ∃ x, x = ({ noE with kind := k, mask := m, pay := t2 } : EntN) := ⟨_, rfl⟩
        have HLEN := Lib.hid (show cur.Len by rw [hcur]; exact HLN0.out)
        rw [← hcur] at HRR HEa
        have HCU := Shut.mk hcur
        clear hcur HLN0
        have HSC := Lib.hid (sizeEV HLEN.out.ok)
        go_wp2_with (refine wpList_load_cells rfl 30 _ rfl gE (entV cur) 30 _ rfl HEa.out Try.underlying30 rfl HSC.out ?_)
        refine (ref_good15 cur HLEN.out wa).mono ?_
        rintro e w8 ⟨rfl, hb⟩
        have HE8 := Lib.hid (HEa.out.below hb)
        have hb8 : Below gE w3 w8 := HBa.out.trans (hb.mono (by have := HBa.out.size; have := HE3.out; omega))
        have HX8 := Lib.hid (HXE.out w8 hb8)
        have HB8 := Lib.hid (HBE.out w8 hb8)
        clear hb hb8 HEa HBa
        by_cases hg : GoodE cur
        · rw [decide_eq_true hg]
          have HR := Shut.mk (HRR.out.trans (if_pos hg))
          clear hg HRR
          go_wp2_with (first | (refine wpList_load_cells rfl 30 _ rfl gE (entV cur) 30 _ rfl HE8.out Try.underlying30 rfl HSC.out ?_) | (refine wpList_store_cells rfl 30 _ _ rfl rfl w.heap.size (entV noE) (entV cur) 30 rfl rfl HX8.out HSC.out (by rw [entV_size HLEN.out.ok]; rfl) (entV_all cur) ?_))
          intro w9 hc hb
          have HX9 := Lib.hid hc.out
          have HB9 := Lib.hid (show Below w.heap.size w w9 from But.toBelow HB8.out hb.out (Nat.le_refl _) HB8.out.size)
          clear hc hb HX8 HB8
          go_wp2_with fail
          refine bodyPost_ret (results_cells_tmp rfl _ _ w.heap.size (entV cur) 30 _ _ rfl rfl HX9.out Try.underlying30 rfl HSC.out) rfl ?_
          exact ⟨by rw [HR.out]; rfl, HB9.out⟩
        · rw [decide_eq_false hg]
          have HR := Shut.mk (HRR.out.trans (if_neg hg))
          clear hg HRR
          go_wp2_with (first | (refine wpList_build_val rfl 30 #[] rfl [] _ (by simp) built_ent0 ?_) | (refine wpList_store_cells rfl 30 _ _ rfl rfl w.heap.size (entV noE) (entV noE) 30 rfl rfl HX8.out HS.out rfl (entV_all noE) ?_))
          intro w9 hc hb
          have HX9 := Lib.hid hc.out
          have HB9 := Lib.hid (show Below w.heap.size w w9 from But.toBelow HB8.out hb.out (Nat.le_refl _) HB8.out.size)
          clear hc hb HX8 HB8
          go_wp2_with fail
          refine bodyPost_ret (results_cells_tmp rfl _ _ w.heap.size (entV noE) 30 _ _ rfl rfl HX9.out Try.underlying30 rfl HS.out) rfl ?_
          exact ⟨by rw [HR.out]; rfl, HB9.out⟩
      · have hni : ((n : Int) == 3) = false := by simp; omega
        have HLN0 := Lib.hid (show ({ noE with kind := k } : EntN).Len from ⟨HOK5.out, Nat.zero_le _, Nat.zero_le _, Nat.zero_le _, Nat.zero_le _⟩)
        have c0 := (ent_cells HOK5.out HEE5.out).1
        have HRR := Shut.mk (show readE s = if GoodE ({ noE with kind := k }) then some ({ noE with kind := k }) else none from by rw [if_neg (bad_kind k)]; exact (readE_else HL.out (fun h => by have := HK.out; omega) (fun h => n3 (by have := HN2.out; omega)) (fun h => by have := HK.out; omega)))
        obtain ⟨cur, hcur⟩ : ∃ x, x = ({ noE with kind := k } : EntN) := ⟨_, rfl⟩
        have HLEN := Lib.hid (show cur.Len by rw [hcur]; exact HLN0.out)
        rw [← hcur] at HRR HEE5
        have HCU := Shut.mk hcur
        clear hcur HLN0
        have HSC := Lib.hid (sizeEV HLEN.out.ok)
        go_wp2_with (refine wpList_load_cells rfl 30 _ rfl gE (entV cur) 30 _ rfl HEE5.out Try.underlying30 rfl HSC.out ?_)
        refine (ref_good15 cur HLEN.out w5).mono ?_
        rintro e w8 ⟨rfl, hb⟩
        have HE8 := Lib.hid (HEE5.out.below hb)
        have hb8 : Below gE w3 w8 := HB5.out.trans (hb.mono (by have := HB5.out.size; have := HE3.out; omega))
        have HX8 := Lib.hid (HXE.out w8 hb8)
        have HB8 := Lib.hid (HBE.out w8 hb8)
        clear hb hb8 HEE5 HB5
        by_cases hg : GoodE cur
        · rw [decide_eq_true hg]
          have HR := Shut.mk (HRR.out.trans (if_pos hg))
          clear hg HRR
          go_wp2_with (first | (refine wpList_load_cells rfl 30 _ rfl gE (entV cur) 30 _ rfl HE8.out Try.underlying30 rfl HSC.out ?_) | (refine wpList_store_cells rfl 30 _ _ rfl rfl w.heap.size (entV noE) (entV cur) 30 rfl rfl HX8.out HSC.out (by rw [entV_size HLEN.out.ok]; rfl) (entV_all cur) ?_))
          intro w9 hc hb
          have HX9 := Lib.hid hc.out
          have HB9 := Lib.hid (show Below w.heap.size w w9 from But.toBelow HB8.out hb.out (Nat.le_refl _) HB8.out.size)
          clear hc hb HX8 HB8
          go_wp2_with fail
          refine bodyPost_ret (results_cells_tmp rfl _ _ w.heap.size (entV cur) 30 _ _ rfl rfl HX9.out Try.underlying30 rfl HSC.out) rfl ?_
          exact ⟨by rw [HR.out]; rfl, HB9.out⟩
        · rw [decide_eq_false hg]
          have HR := Shut.mk (HRR.out.trans (if_neg hg))
          clear hg HRR
          go_wp2_with (first | (refine wpList_build_val rfl 30 #[] rfl [] _ (by simp) built_ent0 ?_) | (refine wpList_store_cells rfl 30 _ _ rfl rfl w.heap.size (entV noE) (entV noE) 30 rfl rfl HX8.out HS.out rfl (entV_all noE) ?_))
          intro w9 hc hb
          have HX9 := Lib.hid hc.out
          have HB9 := Lib.hid (show Below w.heap.size w w9 from But.toBelow HB8.out hb.out (Nat.le_refl _) HB8.out.size)
          clear hc hb HX8 HB8
          go_wp2_with fail
          refine bodyPost_ret (results_cells_tmp rfl _ _ w.heap.size (entV noE) 30 _ _ rfl rfl HX9.out Try.underlying30 rfl HS.out) rfl ?_
          exact ⟨by rw [HR.out]; rfl, HB9.out⟩
    have g3 : (k == 3) = false := by simp [k3]
    by_cases k2 : k = 2
    · have g2 : (k == 2) = true := by simp [k2]
      by_cases n7 : n = 7
      · have hni : ((n : Int) == 7) = true := by simp [n7]
        obtain ⟨t2, t3, t4, t5, t6, rfl⟩ : ∃ a b c d e, l' = [a, b, c, d, e] := by
          match l', hn2 with
          | [a, b, c, d, e], _ => exact ⟨a, b, c, d, e, rfl⟩
          | [], h => simp only [List.length_nil] at h; omega
          | [_], h => simp only [List.length_cons, List.length_nil] at h; omega
          | [_, _], h => simp only [List.length_cons, List.length_nil] at h; omega
          | [_, _, _], h => simp only [List.length_cons, List.length_nil] at h; omega
          | [_, _, _, _], h => simp only [List.length_cons, List.length_nil] at h; omega
          | _ :: _ :: _ :: _ :: _ :: _ :: _, h => simp only [List.length_cons] at h; omega
        have cs3 := HCE.out w5 HB5.out 3 (by simp)
        simp only [List.getElem_cons_succ, List.getElem_cons_zero] at cs3
        have hb3 : (3 : Int) < (n : Int) := by omega
        obtain ⟨rl, hrl⟩ : ∃ x, t3.length = x := ⟨_, rfl⟩
        have HRL3 := Shut.mk hrl
        by_cases r32 : rl = 32
        · have hri : ((rl : Int) == 32) = true := by simp [r32]
          have HRK := Lib.hid (show t3.length = 32 by rw [hrl, r32])
          have HCA := Shut.mk (show candE [t0, t1, t2, t3, t4, t5, t6] = ⟨2, noD, numI t1, numI t2, byteNs t3, numI t4, t5, t6⟩ by simp only [candE]; rw [if_pos ⟨HK.out.trans k2, HRK.out⟩])
          have c0 := (ent_cells HOK5.out HEE5.out).1
          have cs1 := HCE.out w5 HB5.out 1 (by simp)
          simp only [List.getElem_cons_succ, List.getElem_cons_zero] at cs1
          have hb1 : (1 : Int) < (n : Int) := by omega
          have hb2 : (2 : Int) < (n : Int) := by omega
          have hb4 : (4 : Int) < (n : Int) := by omega
          have hb5 : (5 : Int) < (n : Int) := by omega
          have hb6 : (6 : Int) < (n : Int) := by omega
          obtain ⟨kf, hkf⟩ : ∃ k, numI t1 = k := ⟨_, rfl⟩
          obtain ⟨kq, hkq⟩ : ∃ k, numI t2 = k := ⟨_, rfl⟩
          obtain ⟨km, hkm⟩ : ∃ k, numI t4 = k := ⟨_, rfl⟩
          have HNF := Lib.hid (fun w' => ref_num15 t1 w' (by have := HLR.out t1 (by simp); omega))
          have HNQ := Lib.hid (fun w' => ref_num15 t2 w' (by have := HLR.out t2 (by simp); omega))
          have HNM := Lib.hid (fun w' => ref_num15 t4 w' (by have := HLR.out t4 (by simp); omega))
          rw [hkf] at HNF HCA
          rw [hkq] at HNQ HCA
          rw [hkm] at HNM HCA
          clear hkf hkq hkm
          go_wp2_with fail
          refine (HNF.out w5).mono ?_
          rintro e w6 ⟨rfl, hb⟩
          have HE6 := Lib.hid (HEE5.out.below hb)
          have HB6 := Lib.hid (HB5.out.trans (hb.mono (by have := HB5.out.size; have := HE3.out; omega)))
          clear hb HEE5 HB5 HNF c0 cs1 cs3 hrl
          have c36 := (ent_cells HOK5.out HE6.out).2.2.1
          have f36 := HE6.out.frozen 36
          go_upto_region 16 with (fail)
          have he := HE6.out.set 36 (.int .i64 kf)
          rw [set_src _ HOK5.out] at he
          have hbx : Below gE w3 (w6.setCell ⟨gE, 36, none⟩ (.int .i64 kf)) := But.toBelow HB6.out ((But.refl gE w6).setCell _ _) (Nat.le_refl _) (by have := HB6.out.size; have := HE3.out; omega)
          obtain ⟨w7, hwx⟩ : ∃ x, x = w6.setCell ⟨gE, 36, none⟩ (.int .i64 kf) := ⟨_, rfl⟩
          rw [← hwx] at he hbx ⊢
          have HE7 := Lib.hid (show Cells gE 30 (entV ({ noE with kind := k, src := kf })) w7 from he)
          have HB7 := Lib.hid hbx
          clear he hbx hwx HE6 HB6
          clear c36 f36
          have HOK7 := Lib.hid (show ({ noE with kind := k, src := kf } : EntN).Ok from ⟨zeroI_ok, zeroI_ok⟩)
          have cs2 := HCE.out w7 HB7.out 2 (by simp)
          simp only [List.getElem_cons_succ, List.getElem_cons_zero] at cs2
          go_wp2_with fail
          refine (HNQ.out w7).mono ?_
          rintro e wa ⟨rfl, hb⟩
          have HEa := Lib.hid (HE7.out.below hb)
          have HBa := Lib.hid (HB7.out.trans (hb.mono (by have := HB7.out.size; have := HE3.out; omega)))
          clear hb HE7 HB7 HNQ cs2
          have c37 := (ent_cells HOK7.out HEa.out).2.2.2.1
          have f37 := HEa.out.frozen 37
          go_upto_region 17 with (fail)
          have he := HEa.out.set 37 (.int .i64 kq)
          rw [set_seq _ HOK7.out] at he
          have hbx : Below gE w3 (wa.setCell ⟨gE, 37, none⟩ (.int .i64 kq)) := But.toBelow HBa.out ((But.refl gE wa).setCell _ _) (Nat.le_refl _) (by have := HBa.out.size; have := HE3.out; omega)
          obtain ⟨wb, hwx⟩ : ∃ x, x = wa.setCell ⟨gE, 37, none⟩ (.int .i64 kq) := ⟨_, rfl⟩
          rw [← hwx] at he hbx ⊢
          have HEb := Lib.hid (show Cells gE 30 (entV ({ noE with kind := k, src := kf, seq := kq })) wb from he)
          have HBb := Lib.hid hbx
          clear he hbx hwx HEa HBa
          clear c37 f37
          have HOKb := Lib.hid (show ({ noE with kind := k, src := kf, seq := kq } : EntN).Ok from ⟨zeroI_ok, zeroI_ok⟩)
          have hcs3 := fun (w' : World) (q : Below gE w3 w') => HCE.out w' q 3 (by simp)
          simp only [List.getElem_cons_succ, List.getElem_cons_zero] at hcs3
          have HC3 := Lib.hid hcs3
          clear hcs3
          have HP0 := Lib.hid (show Cells gE 30 (entV { noE with kind := k, src := kf, seq := kq, prev := idP t3 0 }) wb from HEb.out)
          go_wp2_with fail
          go_loopw [90] (fun i wq => ∃ j : Nat, j ≤ 32 ∧ i = .int .i64 j ∧ Cells gE 30 (entV { noE with kind := k, src := kf, seq := kq, prev := idP t3 j }) wq ∧ But gE wb wq) (fun i _ => 32 - (intOf i).toNat)
          case atStart => exact ⟨0, by omega, rfl, HP0.out, But.refl _ _⟩
          case round =>
            clear HP0
            obtain ⟨j, hj, rfl, hc, hb⟩ := hrel
            have HCJ := Lib.hid hc
            have HBJ := Lib.hid (show Below gE w3 wr from But.toBelow HBb.out hb (Nat.le_refl _) (by have := HBb.out.size; have := HE3.out; omega))
            have HBU := Lib.hid hb
            clear hc hb
            have HOKJ := Lib.hid (show ({ noE with kind := k, src := kf, seq := kq, prev := idP t3 j } : EntN).Ok from ⟨zeroI_ok, idP_ok HRK.out hj⟩)
            by_cases hlk : j < 32
            · have hks : j < t3.length := by rw [HRK.out]; exact hlk
              have cs3 := HC3.out wr HBJ.out
              have cp := (ent_cells HOKJ.out HCJ.out).2.2.2.2.1
              have c2 := cp j (.int .u8 (((idP t3 j).getD j 0 : Nat) : Int)) (by
                rw [nums, List.getElem?_map, List.getElem?_eq_getElem (by rw [(idP_ok HRK.out hj).1]; exact hlk), List.getD_eq_getElem?_getD, List.getElem?_eq_getElem (by rw [(idP_ok HRK.out hj).1]; exact hlk)]
                rfl)
              have hf := HCJ.out.frozen (38 + j)
              have he := HCJ.out.set (38 + j) (.int .u8 ((t3[j]'hks).toNat : Int))
              rw [set_prev _ HOKJ.out j _ hlk] at he
              simp only [idP_step HRK.out hlk] at he
              have HSJ := Lib.hid he
              have hat : ∀ h, ((⟨t3.toArray⟩ : ByteArray)[j]'h) = t3[j]'hks := fun _ => rfl
              have b3 : (j : Int) < (t3.length : Int) := by omega
              have b1 : (j : Int) < 32 := by omega
              generalize t3[j]'hks = x at hat HSJ
              generalize (idP t3 j).getD j 0 = y at c2
              clear cp he
              go_wp2_with fail
              exact ⟨⟨j + 1, by omega, by go_num, HSJ.out, HBU.out.setCell _ _⟩, by simp [intOf]; omega⟩
            · obtain rfl : j = 32 := by omega
              rw [show ((32 : Nat) : Int) = 32 from rfl]
              rw [idP_full HRK.out] at HCJ HOKJ
              have cs4 := HCE.out wr HBJ.out 4 (by simp)
              simp only [List.getElem_cons_succ, List.getElem_cons_zero] at cs4
              clear HBU HBb HEb HC3 HOKb
              go_wp2_with fail
              refine (HNM.out wr).mono ?_
              rintro e wc ⟨rfl, hb⟩
              have HEc := Lib.hid (HCJ.out.below hb)
              have HBc := Lib.hid (HBJ.out.trans (hb.mono (by have := HBJ.out.size; have := HE3.out; omega)))
              clear hb HCJ HBJ HNM cs4
              have c70 := (ent_cells HOKJ.out HEc.out).2.2.2.2.2.1
              have f70 := HEc.out.frozen 70
              go_upto_region 23 with (fail)
              have he := HEc.out.set 70 (.int .i64 km)
              rw [set_mask _ HOKJ.out] at he
              have hbx : Below gE w3 (wc.setCell ⟨gE, 70, none⟩ (.int .i64 km)) := But.toBelow HBc.out ((But.refl gE wc).setCell _ _) (Nat.le_refl _) (by have := HBc.out.size; have := HE3.out; omega)
              obtain ⟨wd, hwx⟩ : ∃ x, x = wc.setCell ⟨gE, 70, none⟩ (.int .i64 km) := ⟨_, rfl⟩
              rw [← hwx] at he hbx ⊢
              have HEd := Lib.hid (show Cells gE 30 (entV ({ noE with kind := k, src := kf, seq := kq, prev := byteNs t3, mask := km })) wd from he)
              have HBd := Lib.hid hbx
              clear he hbx hwx HEc HBc
              clear c70 f70
              have HOKd := Lib.hid (show ({ noE with kind := k, src := kf, seq := kq, prev := byteNs t3, mask := km } : EntN).Ok from ⟨zeroI_ok, HOKJ.out.prev⟩)
              have c71 := (ent_cells HOKd.out HEd.out).2.2.2.2.2.2.1
              have f71 := HEd.out.frozen 71
              have cs5 := HCE.out wd HBd.out 5 (by simp)
              simp only [List.getElem_cons_succ, List.getElem_cons_zero] at cs5
              go_upto_region 24 with (fail)
              have he := HEd.out.set 71 (.string ⟨t5.toArray⟩)
              rw [set_pay _ HOKd.out] at he
              have hbx : Below gE w3 (wd.setCell ⟨gE, 71, none⟩ (.string ⟨t5.toArray⟩)) := But.toBelow HBd.out ((But.refl gE wd).setCell _ _) (Nat.le_refl _) (by have := HBd.out.size; have := HE3.out; omega)
              obtain ⟨we, hwx⟩ : ∃ x, x = wd.setCell ⟨gE, 71, none⟩ (.string ⟨t5.toArray⟩) := ⟨_, rfl⟩
              rw [← hwx] at he hbx ⊢
              have HEe := Lib.hid (show Cells gE 30 (entV ({ noE with kind := k, src := kf, seq := kq, prev := byteNs t3, mask := km, pay := t5 })) we from he)
              have HBe := Lib.hid hbx
              clear he hbx hwx HEd HBd
              clear c71 f71 cs5
              have HOKe := Lib.hid (show ({ noE with kind := k, src := kf, seq := kq, prev := byteNs t3, mask := km, pay := t5 } : EntN).Ok from ⟨zeroI_ok, HOKJ.out.prev⟩)
              have c72 := (ent_cells HOKe.out HEe.out).2.2.2.2.2.2.2
              have f72 := HEe.out.frozen 72
              have cs6 := HCE.out we HBe.out 6 (by simp)
              simp only [List.getElem_cons_succ, List.getElem_cons_zero] at cs6
              go_upto_region 25 with (fail)
              have he := HEe.out.set 72 (.string ⟨t6.toArray⟩)
              rw [set_sig _ HOKe.out] at he
              have hbx : Below gE w3 (we.setCell ⟨gE, 72, none⟩ (.string ⟨t6.toArray⟩)) := But.toBelow HBe.out ((But.refl gE we).setCell _ _) (Nat.le_refl _) (by have := HBe.out.size; have := HE3.out; omega)
              obtain ⟨wf, hwx⟩ : ∃ x, x = we.setCell ⟨gE, 72, none⟩ (.string ⟨t6.toArray⟩) := ⟨_, rfl⟩
              rw [← hwx] at he hbx ⊢
              have HEf := Lib.hid (show Cells gE 30 (entV ({ noE with kind := k, src := kf, seq := kq, prev := byteNs t3, mask := km, pay := t5, sig := t6 })) wf from he)
              have HBf := Lib.hid hbx
              clear he hbx hwx HEe HBe
              clear c72 f72 cs6
              have HLN0 := Lib.hid (show ({ noE with kind := k, src := kf, seq := kq, prev := byteNs t3, mask := km, pay := t5, sig := t6 } : EntN).Len from ⟨⟨zeroI_ok, HOKJ.out.prev⟩, Nat.zero_le _, Nat.zero_le _, Nat.le_trans (HLR.out t5 (by simp)) (by decide), Nat.le_trans (HLR.out t6 (by simp)) (by decide)⟩)
              have HRR := Shut.mk (show readE s = if GoodE ({ noE with kind := k, src := kf, seq := kq, prev := byteNs t3, mask := km, pay := t5, sig := t6 }) then some ({ noE with kind := k, src := kf, seq := kq, prev := byteNs t3, mask := km, pay := t5, sig := t6 }) else none from by rw [readE_cand HL.out, HCA.out, k2]; rfl)
              obtain ⟨cur, hcur⟩ : ∃ x, x = ({ noE with kind := k, src := kf, seq := kq, prev := byteNs t3, mask := km, pay := t5, sig := t6 } : EntN) := ⟨_, rfl⟩
              have HLEN := Lib.hid (show cur.Len by rw [hcur]; exact HLN0.out)
              rw [← hcur] at HRR HEf
              have HCU := Shut.mk hcur
              clear hcur HLN0
              have HSC := Lib.hid (sizeEV HLEN.out.ok)
              go_wp2_with (refine wpList_load_cells rfl 30 _ rfl gE (entV cur) 30 _ rfl HEf.out Try.underlying30 rfl HSC.out ?_)
              refine (ref_good15 cur HLEN.out wf).mono ?_
              rintro e w8 ⟨rfl, hb⟩
              have HE8 := Lib.hid (HEf.out.below hb)
              have hb8 : Below gE w3 w8 := HBf.out.trans (hb.mono (by have := HBf.out.size; have := HE3.out; omega))
              have HX8 := Lib.hid (HXE.out w8 hb8)
              have HB8 := Lib.hid (HBE.out w8 hb8)
              clear hb hb8 HEf HBf
              by_cases hg : GoodE cur
              · rw [decide_eq_true hg]
                have HR := Shut.mk (HRR.out.trans (if_pos hg))
                clear hg HRR
                go_wp2_with (first | (refine wpList_load_cells rfl 30 _ rfl gE (entV cur) 30 _ rfl HE8.out Try.underlying30 rfl HSC.out ?_) | (refine wpList_store_cells rfl 30 _ _ rfl rfl w.heap.size (entV noE) (entV cur) 30 rfl rfl HX8.out HSC.out (by rw [entV_size HLEN.out.ok]; rfl) (entV_all cur) ?_))
                intro w9 hc hb
                have HX9 := Lib.hid hc.out
                have HB9 := Lib.hid (show Below w.heap.size w w9 from But.toBelow HB8.out hb.out (Nat.le_refl _) HB8.out.size)
                clear hc hb HX8 HB8
                go_wp2_with fail
                refine bodyPost_ret (results_cells_tmp rfl _ _ w.heap.size (entV cur) 30 _ _ rfl rfl HX9.out Try.underlying30 rfl HSC.out) rfl ?_
                exact ⟨by rw [HR.out]; rfl, HB9.out⟩
              · rw [decide_eq_false hg]
                have HR := Shut.mk (HRR.out.trans (if_neg hg))
                clear hg HRR
                go_wp2_with (first | (refine wpList_build_val rfl 30 #[] rfl [] _ (by simp) built_ent0 ?_) | (refine wpList_store_cells rfl 30 _ _ rfl rfl w.heap.size (entV noE) (entV noE) 30 rfl rfl HX8.out HS.out rfl (entV_all noE) ?_))
                intro w9 hc hb
                have HX9 := Lib.hid hc.out
                have HB9 := Lib.hid (show Below w.heap.size w w9 from But.toBelow HB8.out hb.out (Nat.le_refl _) HB8.out.size)
                clear hc hb HX8 HB8
                go_wp2_with fail
                refine bodyPost_ret (results_cells_tmp rfl _ _ w.heap.size (entV noE) 30 _ _ rfl rfl HX9.out Try.underlying30 rfl HS.out) rfl ?_
                exact ⟨by rw [HR.out]; rfl, HB9.out⟩
        · have hri : ((rl : Int) == 32) = false := by simp; omega
          have HLN0 := Lib.hid (show ({ noE with kind := k } : EntN).Len from ⟨HOK5.out, Nat.zero_le _, Nat.zero_le _, Nat.zero_le _, Nat.zero_le _⟩)
          have c0 := (ent_cells HOK5.out HEE5.out).1
          have HRR := Shut.mk (show readE s = if GoodE ({ noE with kind := k }) then some ({ noE with kind := k }) else none from by rw [if_neg (bad_kind k)]; exact (readE_else HL.out (fun h => by have := HK.out; omega) (fun h => by have := HK.out; omega) (fun h => r32 (by have := HRL3.out; have h3 := h.2.2; simp only [List.getD_cons_succ, List.getD_cons_zero] at h3; omega))))
          obtain ⟨cur, hcur⟩ : ∃ x, x = ({ noE with kind := k } : EntN) := ⟨_, rfl⟩
          have HLEN := Lib.hid (show cur.Len by rw [hcur]; exact HLN0.out)
          rw [← hcur] at HRR HEE5
          have HCU := Shut.mk hcur
          clear hcur HLN0
          have HSC := Lib.hid (sizeEV HLEN.out.ok)
          go_wp2_with (refine wpList_load_cells rfl 30 _ rfl gE (entV cur) 30 _ rfl HEE5.out Try.underlying30 rfl HSC.out ?_)
          refine (ref_good15 cur HLEN.out w5).mono ?_
          rintro e w8 ⟨rfl, hb⟩
          have HE8 := Lib.hid (HEE5.out.below hb)
          have hb8 : Below gE w3 w8 := HB5.out.trans (hb.mono (by have := HB5.out.size; have := HE3.out; omega))
          have HX8 := Lib.hid (HXE.out w8 hb8)
          have HB8 := Lib.hid (HBE.out w8 hb8)
          clear hb hb8 HEE5 HB5
          by_cases hg : GoodE cur
          · rw [decide_eq_true hg]
            have HR := Shut.mk (HRR.out.trans (if_pos hg))
            clear hg HRR
            go_wp2_with (first | (refine wpList_load_cells rfl 30 _ rfl gE (entV cur) 30 _ rfl HE8.out Try.underlying30 rfl HSC.out ?_) | (refine wpList_store_cells rfl 30 _ _ rfl rfl w.heap.size (entV noE) (entV cur) 30 rfl rfl HX8.out HSC.out (by rw [entV_size HLEN.out.ok]; rfl) (entV_all cur) ?_))
            intro w9 hc hb
            have HX9 := Lib.hid hc.out
            have HB9 := Lib.hid (show Below w.heap.size w w9 from But.toBelow HB8.out hb.out (Nat.le_refl _) HB8.out.size)
            clear hc hb HX8 HB8
            go_wp2_with fail
            refine bodyPost_ret (results_cells_tmp rfl _ _ w.heap.size (entV cur) 30 _ _ rfl rfl HX9.out Try.underlying30 rfl HSC.out) rfl ?_
            exact ⟨by rw [HR.out]; rfl, HB9.out⟩
          · rw [decide_eq_false hg]
            have HR := Shut.mk (HRR.out.trans (if_neg hg))
            clear hg HRR
            go_wp2_with (first | (refine wpList_build_val rfl 30 #[] rfl [] _ (by simp) built_ent0 ?_) | (refine wpList_store_cells rfl 30 _ _ rfl rfl w.heap.size (entV noE) (entV noE) 30 rfl rfl HX8.out HS.out rfl (entV_all noE) ?_))
            intro w9 hc hb
            have HX9 := Lib.hid hc.out
            have HB9 := Lib.hid (show Below w.heap.size w w9 from But.toBelow HB8.out hb.out (Nat.le_refl _) HB8.out.size)
            clear hc hb HX8 HB8
            go_wp2_with fail
            refine bodyPost_ret (results_cells_tmp rfl _ _ w.heap.size (entV noE) 30 _ _ rfl rfl HX9.out Try.underlying30 rfl HS.out) rfl ?_
            exact ⟨by rw [HR.out]; rfl, HB9.out⟩
      · have hni : ((n : Int) == 7) = false := by simp; omega
        have HLN0 := Lib.hid (show ({ noE with kind := k } : EntN).Len from ⟨HOK5.out, Nat.zero_le _, Nat.zero_le _, Nat.zero_le _, Nat.zero_le _⟩)
        have c0 := (ent_cells HOK5.out HEE5.out).1
        have HRR := Shut.mk (show readE s = if GoodE ({ noE with kind := k }) then some ({ noE with kind := k }) else none from by rw [if_neg (bad_kind k)]; exact (readE_else HL.out (fun h => by have := HK.out; omega) (fun h => by have := HK.out; omega) (fun h => n7 (by have := HN2.out; omega))))
        obtain ⟨cur, hcur⟩ : ∃ x, x = ({ noE with kind := k } : EntN) := ⟨_, rfl⟩
        have HLEN := Lib.hid (show cur.Len by rw [hcur]; exact HLN0.out)
        rw [← hcur] at HRR HEE5
        have HCU := Shut.mk hcur
        clear hcur HLN0
        have HSC := Lib.hid (sizeEV HLEN.out.ok)
        go_wp2_with (refine wpList_load_cells rfl 30 _ rfl gE (entV cur) 30 _ rfl HEE5.out Try.underlying30 rfl HSC.out ?_)
        refine (ref_good15 cur HLEN.out w5).mono ?_
        rintro e w8 ⟨rfl, hb⟩
        have HE8 := Lib.hid (HEE5.out.below hb)
        have hb8 : Below gE w3 w8 := HB5.out.trans (hb.mono (by have := HB5.out.size; have := HE3.out; omega))
        have HX8 := Lib.hid (HXE.out w8 hb8)
        have HB8 := Lib.hid (HBE.out w8 hb8)
        clear hb hb8 HEE5 HB5
        by_cases hg : GoodE cur
        · rw [decide_eq_true hg]
          have HR := Shut.mk (HRR.out.trans (if_pos hg))
          clear hg HRR
          go_wp2_with (first | (refine wpList_load_cells rfl 30 _ rfl gE (entV cur) 30 _ rfl HE8.out Try.underlying30 rfl HSC.out ?_) | (refine wpList_store_cells rfl 30 _ _ rfl rfl w.heap.size (entV noE) (entV cur) 30 rfl rfl HX8.out HSC.out (by rw [entV_size HLEN.out.ok]; rfl) (entV_all cur) ?_))
          intro w9 hc hb
          have HX9 := Lib.hid hc.out
          have HB9 := Lib.hid (show Below w.heap.size w w9 from But.toBelow HB8.out hb.out (Nat.le_refl _) HB8.out.size)
          clear hc hb HX8 HB8
          go_wp2_with fail
          refine bodyPost_ret (results_cells_tmp rfl _ _ w.heap.size (entV cur) 30 _ _ rfl rfl HX9.out Try.underlying30 rfl HSC.out) rfl ?_
          exact ⟨by rw [HR.out]; rfl, HB9.out⟩
        · rw [decide_eq_false hg]
          have HR := Shut.mk (HRR.out.trans (if_neg hg))
          clear hg HRR
          go_wp2_with (first | (refine wpList_build_val rfl 30 #[] rfl [] _ (by simp) built_ent0 ?_) | (refine wpList_store_cells rfl 30 _ _ rfl rfl w.heap.size (entV noE) (entV noE) 30 rfl rfl HX8.out HS.out rfl (entV_all noE) ?_))
          intro w9 hc hb
          have HX9 := Lib.hid hc.out
          have HB9 := Lib.hid (show Below w.heap.size w w9 from But.toBelow HB8.out hb.out (Nat.le_refl _) HB8.out.size)
          clear hc hb HX8 HB8
          go_wp2_with fail
          refine bodyPost_ret (results_cells_tmp rfl _ _ w.heap.size (entV noE) 30 _ _ rfl rfl HX9.out Try.underlying30 rfl HS.out) rfl ?_
          exact ⟨by rw [HR.out]; rfl, HB9.out⟩
    have g2 : (k == 2) = false := by simp [k2]
    have HLN0 := Lib.hid (show ({ noE with kind := k } : EntN).Len from ⟨HOK5.out, Nat.zero_le _, Nat.zero_le _, Nat.zero_le _, Nat.zero_le _⟩)
    have c0 := (ent_cells HOK5.out HEE5.out).1
    have HRR := Shut.mk (show readE s = if GoodE ({ noE with kind := k }) then some ({ noE with kind := k }) else none from by rw [if_neg (bad_kind k)]; exact (readE_else HL.out (fun h => by have := HK.out; omega) (fun h => by have := HK.out; omega) (fun h => by have := HK.out; omega)))
    obtain ⟨cur, hcur⟩ : ∃ x, x = ({ noE with kind := k } : EntN) := ⟨_, rfl⟩
    have HLEN := Lib.hid (show cur.Len by rw [hcur]; exact HLN0.out)
    rw [← hcur] at HRR HEE5
    have HCU := Shut.mk hcur
    clear hcur HLN0
    have HSC := Lib.hid (sizeEV HLEN.out.ok)
    go_wp2_with (refine wpList_load_cells rfl 30 _ rfl gE (entV cur) 30 _ rfl HEE5.out Try.underlying30 rfl HSC.out ?_)
    refine (ref_good15 cur HLEN.out w5).mono ?_
    rintro e w8 ⟨rfl, hb⟩
    have HE8 := Lib.hid (HEE5.out.below hb)
    have hb8 : Below gE w3 w8 := HB5.out.trans (hb.mono (by have := HB5.out.size; have := HE3.out; omega))
    have HX8 := Lib.hid (HXE.out w8 hb8)
    have HB8 := Lib.hid (HBE.out w8 hb8)
    clear hb hb8 HEE5 HB5
    by_cases hg : GoodE cur
    · rw [decide_eq_true hg]
      have HR := Shut.mk (HRR.out.trans (if_pos hg))
      clear hg HRR
      go_wp2_with (first | (refine wpList_load_cells rfl 30 _ rfl gE (entV cur) 30 _ rfl HE8.out Try.underlying30 rfl HSC.out ?_) | (refine wpList_store_cells rfl 30 _ _ rfl rfl w.heap.size (entV noE) (entV cur) 30 rfl rfl HX8.out HSC.out (by rw [entV_size HLEN.out.ok]; rfl) (entV_all cur) ?_))
      intro w9 hc hb
      have HX9 := Lib.hid hc.out
      have HB9 := Lib.hid (show Below w.heap.size w w9 from But.toBelow HB8.out hb.out (Nat.le_refl _) HB8.out.size)
      clear hc hb HX8 HB8
      go_wp2_with fail
      refine bodyPost_ret (results_cells_tmp rfl _ _ w.heap.size (entV cur) 30 _ _ rfl rfl HX9.out Try.underlying30 rfl HSC.out) rfl ?_
      exact ⟨by rw [HR.out]; rfl, HB9.out⟩
    · rw [decide_eq_false hg]
      have HR := Shut.mk (HRR.out.trans (if_neg hg))
      clear hg HRR
      go_wp2_with (first | (refine wpList_build_val rfl 30 #[] rfl [] _ (by simp) built_ent0 ?_) | (refine wpList_store_cells rfl 30 _ _ rfl rfl w.heap.size (entV noE) (entV noE) 30 rfl rfl HX8.out HS.out rfl (entV_all noE) ?_))
      intro w9 hc hb
      have HX9 := Lib.hid hc.out
      have HB9 := Lib.hid (show Below w.heap.size w w9 from But.toBelow HB8.out hb.out (Nat.le_refl _) HB8.out.size)
      clear hc hb HX8 HB8
      go_wp2_with fail
      refine bodyPost_ret (results_cells_tmp rfl _ _ w.heap.size (entV noE) 30 _ _ rfl rfl HX9.out Try.underlying30 rfl HS.out) rfl ?_
      exact ⟨by rw [HR.out]; rfl, HB9.out⟩
end Go.Proofs.Ytenmkfjgjemiiaa
namespace Go.Proofs.Ytenmkfjgjemiiaa
open Go.RowKit Go.BigFrame
set_option maxHeartbeats 4000000 in
set_option maxRecDepth 100000 in
theorem ref_texts15 (ao : Option Addr) (L : List EntN) (c : Nat) (w : World) (hL : ∀ x ∈ L, x.Len ∧ x.seq < 9223372036854775808) (hn : L.length ≤ 1000000) (hl : (entsB L).length ≤ 9223372036854775000) (hp : EntsAt ao L w) :
    Calls Try.prog 17 #[.slice ao L.length c] w fun e w' => e = .returned (.string ⟨(entsB L).toArray⟩) ∧ Below w.heap.size w w' := by
  have HP := Lib.hid hp
  have HLL := Lib.hid hL
  have HBD := Lib.hid hl
  obtain ⟨n, hnn⟩ : ∃ n, L.length = n := ⟨_, rfl⟩
  have HN := Shut.mk hnn
  rw [hnn] at hn ⊢
  have HZE := Lib.hid (show (Try.prog.info? 30).bind (·.zero) = some (.agg (entL noE).toArray) by kernel_rfl)
  clear hp hL hl hnn
  go_enter Try.func17, Try.ntmps17
  go_wp2_with fail
  go_loopw [3, 8] (fun v i wr => ∃ k : Nat, k ≤ n ∧ i = .int .i64 k ∧ OwnS w.heap.size v ((L.take k).map entB) wr ∧ Below w.heap.size w wr) (fun _ i _ => n - (intOf i).toNat)
  case atStart => exact ⟨0, Nat.zero_le _, rfl, OwnS.nil _ _, Below.refl _ _⟩
  case round =>
    obtain ⟨k, hk, rfl, ho, hb⟩ := hrel
    have HO := Lib.hid ho
    have HBW := Lib.hid hb
    have HPW := Lib.hid (HP.out.below hb)
    clear hb
    by_cases hkn : k < n
    · obtain ⟨y, hy⟩ : ∃ y, L[k]? = some y := ⟨_, List.getElem?_eq_getElem (by rw [HN.out]; exact hkn)⟩
      have HTK := Shut.mk (show (L.take (k + 1)).map entB = (L.take k).map entB ++ [entB y] by
        have h1 : L[k]'(by rw [HN.out]; exact hkn) = y := by
          rw [List.getElem?_eq_getElem (by rw [HN.out]; exact hkn)] at hy
          exact Option.some.inj hy
        rw [List.take_succ_eq_append_getElem (by rw [HN.out]; exact hkn), h1, List.map_append]
        rfl)
      have HY := Lib.hid (HLL.out y (List.mem_of_getElem? hy))
      obtain ⟨b, ob, rfl, hbl, hr⟩ := HPW.out.getM hy
      have HR := Lib.hid hr
      have HSL := Lib.hid (sizeEL HY.out.1.ok)
      have HSV := Lib.hid (sizeEV HY.out.1.ok)
      obtain ⟨M, hM⟩ : ∃ M, (L.take k).map entB = M := ⟨_, rfl⟩
      have HML := Lib.hid (show M.length = k by rw [← hM, List.length_map, List.length_take, HN.out]; omega)
      rw [hM] at HO HTK
      clear hy hbl hr ho hM
      obtain ⟨ap, cp, rfl⟩ := HO.out.form
      rw [HML.out] at HO ⊢
      go_wp2_with (first
        | (refine wpList_load_mid rfl 30 _ rfl b (ob + k * 73) rfl _ _ HR.out Try.underlying30 rfl HSL.out ?_)
        | (refine wpList_alloc_of rfl 30 rfl (entL noE) HZE.out ?_)
        | (refine wpList_store_cells rfl 30 _ _ rfl rfl wr.heap.size (entV noE) (entV y) 30 rfl rfl (heap_alloc_new wr _) HSV.out (by rw [entV_size HY.out.1.ok]; rfl) (entV_all y) ?_))
      intro w4 hc hb
      have hb4 : Below wr.heap.size wr w4 := But.toBelow ((Below.refl _ wr).alloc (Nat.le_refl _) _) hb.out (Nat.le_refl _) (by rw [World.size_alloc]; exact Nat.le_succ _)
      have HC4 := Lib.hid hc.out
      have HB4 := Lib.hid (HBW.out.trans (hb4.mono HBW.out.size))
      have HO4 := Lib.hid (HO.out.below hb4)
      obtain ⟨g5, hg5⟩ : ∃ g, wr.heap.size = g := ⟨_, rfl⟩
      rw [hg5] at HC4 ⊢
      clear hc hb hb4 hg5 HO HR HSL
      go_wp2_with (refine wpList_load_cells rfl 30 _ rfl g5 (entV y) 30 _ rfl HC4.out Try.underlying30 rfl HSV.out ?_)
      refine (ref_text15 y HY.out.1 HY.out.2 w4).mono ?_
      rintro r w5 ⟨rfl, hb⟩
      have HO5 := Lib.hid (HO4.out.below hb)
      have HB5 := Lib.hid (HB4.out.trans (hb.mono HB4.out.size))
      clear hb HO4 HB4 HC4
      obtain ⟨T, hT⟩ : ∃ T, entB y = T := ⟨_, rfl⟩
      rw [hT] at HTK ⊢
      clear hT
      have HS := Lib.hid (strs_lit w5 [T] 9)
      go_wp2_with (refine wpList_push_strs rfl _ _ rfl w.heap.size _ M [T] (some ⟨w5.heap.size, 0, none⟩) 1 1 rfl rfl (HO5.out.below ((Below.refl _ w5).alloc (Nat.le_refl _) _)) rfl HS.out (fun h => by cases h) (by have := HML.out; simp only [List.length_singleton]; omega) (Nat.le_trans HB5.out.size (by rw [World.size_alloc]; exact Nat.le_succ _)) ?_)
      intro v6 w6 ho hb _
      have HO6 := Lib.hid ho.out
      have HB6 := Lib.hid (HB5.out.trans (((Below.refl _ w5).alloc HB5.out.size _).trans hb.out))
      clear ho hb HS HO5 HB5
      go_wp2_with fail
      exact ⟨⟨k + 1, by omega, by go_num, by rw [HTK.out]; exact HO6.out, HB6.out⟩, by simp [intOf]; omega⟩
    · obtain rfl : k = n := by omega
      have hM : (L.take k).map entB = L.map entB := by rw [List.take_of_length_le (by rw [HN.out]; exact Nat.le_refl _)]
      rw [hM] at HO
      obtain ⟨ap, cp, rfl⟩ := HO.out.form
      have HS := Lib.hid (strsAt_own HO.out)
      have HLM := Lib.hid (show (L.map entB).length = k by rw [List.length_map, HN.out])
      have HLI := Lib.hid (rlistref_any ap cp (L.map entB) wr HS.out (by rw [HLM.out]; omega) HBD.out)
      rw [HLM.out] at HLI ⊢
      clear hM ho
      go_wp2_with fail
      refine HLI.out.mono ?_
      rintro r w7 ⟨rfl, hb⟩
      have HB7 := Lib.hid (HBW.out.trans (hb.mono HBW.out.size))
      clear hb HLI
      go_wp2_with fail
      go_ret
      exact ⟨rfl, HB7.out⟩
def RdAE (B : Nat) (o : Option (List EntN)) (y : Ending) (w' : World) : Prop := ∃ v, y = .returned (.tuple #[v, .bool o.isSome]) ∧ OwnE15 B v (o.getD []) w'
set_option maxHeartbeats 8000000 in
set_option maxRecDepth 100000 in
theorem ref_readAll15 (s : List UInt8) (w : World) (hm : s.length ≤ 140737488351232) :
    Calls Try.prog 21 #[.string ⟨s.toArray⟩] w fun e w' => RdAE w.heap.size (readAllE s) e w' ∧ Below w.heap.size w w' := by
  have HM := Lib.hid hm
  clear hm
  go_enter Try.func21, Try.ntmps21
  go_wp2_with fail
  obtain ⟨q, hq⟩ : ∃ q, splitB s = q := ⟨_, rfl⟩
  have HL := Shut.mk hq
  have hcc := rsplit_any s w (by have := HM.out; omega)
  rw [hq] at hcc
  clear hq
  refine hcc.mono ?_
  rintro e w2 ⟨⟨v, rfl, ho⟩, hb⟩
  obtain ⟨ao, cq, rfl⟩ := ho.form
  have HB2 := Lib.hid hb
  have HSA := Lib.hid (strsAt_own ho)
  clear hcc ho hb
  cases q with
  | none =>
    simp only [Option.getD_none, List.length_nil, Option.isSome_none]
    have HR := Shut.mk (show readAllE s = none by rw [readAllE, HL.out])
    go_wp2_with fail
    go_ret2
    exact ⟨⟨_, by rw [HR.out]; rfl, by rw [HR.out]; exact OwnE15.nil _ _⟩, HB2.out⟩
  | some l =>
    simp only [Option.getD_some, Option.isSome_some] at HSA ⊢
    obtain ⟨n, hn⟩ : ∃ n, l.length = n := ⟨_, rfl⟩
    have HN := Shut.mk hn
    rw [hn]
    clear hn
    have HLR := Lib.hid (split_parts HL.out)
    have hcount : n ≤ 262144 := by
      have h1 := splitB_some HL.out
      have h2 := listB_length_ge l
      have h3 : s.length ≤ 262144 := by
        have h := HL.out
        unfold splitB at h
        split at h
        · cases h
        · omega
      rw [h1] at h2
      rw [← HN.out]
      omega
    have HR0 := Shut.mk (show readAllE s = readEs l by rw [readAllE, HL.out])
    have HZE := Lib.hid (show (Try.prog.info? 30).bind (·.zero) = some (.agg (entL noE).toArray) by kernel_rfl)
    go_wp2_with fail
    go_loopw [20, 6] (fun i v wr => ∃ (k : Nat) (L : List EntN), k ≤ n ∧ i = .int .i64 k ∧ L.length = k ∧ (l.take k).map readE = L.map some ∧ OwnE15 w2.heap.size v L wr ∧ Below w2.heap.size w2 wr) (fun i _ _ => n - (intOf i).toNat)
    case atStart => exact ⟨0, [], Nat.zero_le _, rfl, rfl, by rfl, OwnE15.nil _ _, Below.refl _ _⟩
    case round =>
      obtain ⟨k, L, hk, rfl, hLk, hmap, hown, hb⟩ := hrel
      have HLK := Shut.mk hLk
      have HMP := Shut.mk hmap
      have HO := Lib.hid hown
      have HBW := Lib.hid hb
      have HSW := Lib.hid (HSA.out.below hb)
      clear hLk hmap hown hb
      by_cases hkn : k < n
      · obtain ⟨t, ht⟩ : ∃ t, l[k]'(by rw [HN.out]; exact hkn) = t := ⟨_, rfl⟩
        obtain ⟨g, og, rfl, c0⟩ := HSW.out.cell (q := k) (by rw [HN.out]; exact hkn)
        rw [ht] at c0
        have HT := Shut.mk ht
        have HTL := Lib.hid (show t.length ≤ 262144 from HLR.out t (by rw [← ht]; exact List.getElem_mem _))
        clear ht
        have HRD := Lib.hid (ref_read15 t wr (by have := HTL.out; omega))
        obtain ⟨o, hor⟩ : ∃ o, readE t = o := ⟨_, rfl⟩
        have HOR := Shut.mk hor
        rw [hor] at HRD
        clear hor
        obtain ⟨y, hy⟩ : ∃ y, o.getD noE = y := ⟨_, rfl⟩
        have HY := Shut.mk hy
        obtain ⟨b, hbo⟩ : ∃ b, o.isSome = b := ⟨_, rfl⟩
        have HBO := Shut.mk hbo
        have HOK := Lib.hid (show y.Ok by
          rw [← hy]
          cases o with
          | none => exact noE_ok
          | some o => exact (readE_some HOR.out).2.2)
        have HSV := Lib.hid (sizeEV HOK.out)
        unfold RdE at HRD
        rw [hy, hbo] at HRD
        clear hy hbo
        go_wp2_with fail
        refine HRD.out.mono ?_
        rintro e w3 ⟨rfl, hb⟩
        have HB3 := Lib.hid hb
        clear hb c0 HRD
        go_wp2_with (first
          | (refine wpList_alloc_of rfl 30 rfl (entL noE) HZE.out ?_)
          | (refine wpList_store_cells rfl 30 _ _ rfl rfl w3.heap.size (entV noE) (entV y) 30 rfl rfl (heap_alloc_new w3 _) HSV.out (by rw [entV_size HOK.out]; rfl) (entV_all y) ?_))
        intro w4 hc hb
        have hb4 : Below w3.heap.size w3 w4 := But.toBelow ((Below.refl _ w3).alloc (Nat.le_refl _) _) hb.out (Nat.le_refl _) (by rw [World.size_alloc]; exact Nat.le_succ _)
        have HC4 := Lib.hid hc.out
        have HB4 := Lib.hid (HB3.out.trans (hb4.mono HB3.out.size))
        have HO4 := Lib.hid (HO.out.below HB4.out)
        obtain ⟨gx, hgx⟩ : ∃ g, w3.heap.size = g := ⟨_, rfl⟩
        rw [hgx] at HC4 ⊢
        clear hc hb hb4 HB3 hgx
        cases b with
        | false =>
          have HR := Shut.mk (show readAllE s = none by
            rw [HR0.out]
            refine readEs_bad (k := k) (by rw [HN.out]; exact hkn) ?_
            rw [HT.out, HOR.out]
            have := HBO.out
            simpa using this)
          go_wp2_with fail
          go_ret2
          exact ⟨⟨_, by rw [HR.out]; rfl, by rw [HR.out]; exact OwnE15.nil _ _⟩, HB2.out.trans ((HBW.out.trans (HB4.out.mono HBW.out.size)).mono HB2.out.size)⟩
        | true =>
          have hos : o = some y := by
            cases o with
            | none => have := HBO.out; cases this
            | some o => rw [← HY.out]; rfl
          have HOS := Shut.mk hos
          clear hos
          have HLB := Lib.hid (show L.length ≤ 1000000 by rw [HLK.out]; omega)
          have HW4 := Lib.hid (show w2.heap.size ≤ w4.heap.size from Nat.le_trans HBW.out.size HB4.out.size)
          go_upto_region 11 with (fail)
          refine wp_region_lit ?_
          iterate 3 (first | go_skip | go_guarded | go_step)
          refine wpList_load_cells rfl 30 _ rfl gx (entV y) 30 _ rfl HC4.out Try.underlying30 rfl HSV.out ?_
          simp only [Act.put, List.setIfInBounds_toArray, List.set_cons_zero, List.set_cons_succ]
          refine wpList_plain rfl fun K hK => (op_build_wide 22 30 _ rfl (entL y) rfl (built_ent1 y HOK.out) (hK _ _ ?_)).out
          simp only [Act.put, List.setIfInBounds_toArray, List.set_cons_zero, List.set_cons_succ]
          refine wpList_append_ent rfl _ _ rfl w2.heap.size u6 L y HOK.out w4.heap.size 1 rfl (HO4.out.below ((Below.refl _ _).alloc (Nat.le_refl _) _)) rfl (heap_alloc_new w4 _) HLB.out (Nat.le_trans HW4.out (by rw [World.size_alloc]; exact Nat.le_succ _)) ?_
          intro v' w' hov hbv hgv
          have HOV := Lib.hid hov.out
          have HBV := Lib.hid (show Below w2.heap.size w2 w' from (HBW.out.trans (HB4.out.mono HBW.out.size)).trans (((Below.refl _ w4).alloc HW4.out _).trans hbv.out))
          clear hov hbv hgv
          go_wp2_with fail
          refine ⟨⟨k + 1, L ++ [y], by omega, by go_num, by rw [List.length_append, HLK.out]; rfl, ?_, HOV.out, HBV.out⟩, by simp [intOf]; omega⟩
          rw [List.take_succ_eq_append_getElem (by rw [HN.out]; exact hkn), List.map_append, List.map_append, HMP.out, HT.out]
          simp only [List.map_cons, List.map_nil]
          rw [HOR.out, HOS.out]
      · obtain rfl : k = n := by omega
        have HR := Shut.mk (show readAllE s = some L by
          rw [HR0.out]
          refine (readEs_iff l L).2 ?_
          rw [← HMP.out, List.take_of_length_le (by rw [HN.out]; exact Nat.le_refl _)])
        go_wp2_with fail
        go_ret2
        exact ⟨⟨_, by rw [HR.out]; rfl, by rw [HR.out]; exact HO.out.mono HB2.out.size⟩, HB2.out.trans (HBW.out.mono HB2.out.size)⟩
end Go.Proofs.Ytenmkfjgjemiiaa
namespace Go.Proofs.Ytenmkfjgjemiiaa
open Go.RowKit Go.BigFrame
set_option maxHeartbeats 4000000 in
set_option maxRecDepth 100000 in
theorem ref_same15 (A B : List EntN) (pa pb : Option Addr) (ca cb : Nat) (w : World) (hA : ∀ x ∈ A, x.Ok) (hB : ∀ x ∈ B, x.Ok) (hpa : EntsAt pa A w) (hpb : EntsAt pb B w) (hlA : A.length ≤ 140737488351232) (hlB : B.length ≤ 140737488351232) :
    Calls Try.prog 22 #[.slice pa A.length ca, .slice pb B.length cb] w fun e w' => e = .returned (.bool (decide (A = B))) ∧ Below w.heap.size w w' := by
  have HPA := Lib.hid hpa
  have HPB := Lib.hid hpb
  have HA := Lib.hid hA
  have HB := Lib.hid hB
  clear hpa hpb hA hB
  obtain ⟨n, hn⟩ : ∃ n, A.length = n := ⟨_, rfl⟩
  obtain ⟨m, hm⟩ : ∃ m, B.length = m := ⟨_, rfl⟩
  have HLA := Shut.mk hn
  have HLB := Shut.mk hm
  rw [hn] at hlA ⊢
  rw [hm] at hlB ⊢
  clear hn hm
  by_cases h3 : ¬ n = m
  · have h3b : ((n : Int) != (m : Int)) = true := by simp; omega
    have HR := Shut.mk (show decide (A = B) = false from decide_eq_false (fun h => h3 (by rw [← HLA.out, ← HLB.out, h])))
    go_enter Try.func22, Try.ntmps22
    go_wp2_with fail
    go_ret
    exact ⟨by rw [HR.out]; rfl, Below.refl _ _⟩
  have h3 := Classical.not_not.1 h3
  subst h3
  go_enter Try.func22, Try.ntmps22
  go_wp2_with fail
  go_loopw [13] (fun i wr => ∃ k : Nat, k ≤ n ∧ i = .int .i64 k ∧ (∀ j, j < k → A[j]? = B[j]?) ∧ Below w.heap.size w wr) (fun i _ => n - (intOf i).toNat)
  case atStart => exact ⟨0, Nat.zero_le _, rfl, fun j hj => by omega, Below.refl _ _⟩
  case round =>
    obtain ⟨k, hk, rfl, hj, hb⟩ := hrel
    have HJ := Lib.hid hj
    have HBW := Lib.hid hb
    clear hj hb
    by_cases hkn : k < n
    · obtain ⟨a, hak⟩ : ∃ a, A[k]? = some a := ⟨_, List.getElem?_eq_getElem (by rw [HLA.out]; exact hkn)⟩
      obtain ⟨b, hbk⟩ : ∃ b, B[k]? = some b := ⟨_, List.getElem?_eq_getElem (by rw [HLB.out]; exact hkn)⟩
      have HAK := Shut.mk hak
      have HBK := Shut.mk hbk
      have ham := List.mem_of_getElem? hak
      have hbm := List.mem_of_getElem? hbk
      obtain ⟨ga, oa, rfl, hga, r1⟩ := (HPA.out.below HBW.out).getM hak
      obtain ⟨gb, ob, rfl, hgb, r2⟩ := (HPB.out.below HBW.out).getM hbk
      have HR1 := Lib.hid (fun (w' : World) (q : Below wr.heap.size wr w') => show w'.rangeAt ga (oa + k * 73) (entL a) from rangeAt_belowI r1 q hga)
      have HR2 := Lib.hid (fun (w' : World) (q : Below wr.heap.size wr w') => show w'.rangeAt gb (ob + k * 73) (entL b) from rangeAt_belowI r2 q hgb)
      have HS1 := Lib.hid (sizeEL (HA.out a ham))
      have HS2 := Lib.hid (sizeEL (HB.out b hbm))
      have HNE := Lib.hid (neq_ent a b (HA.out a ham) (HB.out b hbm))
      have HGE := Lib.hid (fun x y w => guard_ent .neq (.inr rfl) x y (entV a) (entV b) w)
      obtain ⟨z, hz⟩ : ∃ z, decide (a = b) = z := ⟨_, rfl⟩
      have HZ := Shut.mk hz
      rw [hz] at HNE
      clear hak hbk ham hbm hga hgb r1 r2 hz
      cases z with
      | true =>
        have HXY := Shut.mk (of_decide_eq_true HZ.out)
        go_upto_region 6 with (fail)
        refine wp_region_class (fun w' => Below wr.heap.size wr w') (by kernel_rfl) (by kernel_rfl) (Below.refl _ _).drew ?_
        repeat (first
          | go_big_quiet_skip
          | (go_big_quiet_want; refine quiet_load_row 30 _ rfl ga (oa + k * 73) (entL a) _ rfl HR1.out Try.underlying30 rfl HS1.out ?_; go_big_quiet_on; simp only [Act.put, List.setIfInBounds_toArray, List.set_cons_zero, List.set_cons_succ])
          | (go_big_quiet_want; refine quiet_load_row 30 _ rfl gb (ob + k * 73) (entL b) _ rfl HR2.out Try.underlying30 rfl HS2.out ?_; go_big_quiet_on; simp only [Act.put, List.setIfInBounds_toArray, List.set_cons_zero, List.set_cons_succ])
          | (go_big_quiet_want; refine quiet_bin .neq 30 30 _ _ rfl (.agg (entV a)) (.agg (entV b)) _ rfl rfl (HGE.out _ _) HNE.out ?_; go_big_quiet_on; simp only [Act.put, List.setIfInBounds_toArray, List.set_cons_zero, List.set_cons_succ])
          | go_big_quiet_step ((intro hs'; rfl)))
        refine wpQuiet_nil ?_
        intro w3 hb2
        go_wp2_with fail
        refine ⟨⟨k + 1, by omega, by go_num, fun q hq => ?_, HBW.out.trans (hb2.mono HBW.out.size)⟩, by simp [intOf]; omega⟩
        by_cases hqj : q = k
        · subst hqj
          rw [HAK.out, HBK.out, HXY.out]
        · exact HJ.out q (by omega)
      | false =>
        have hxy := of_decide_eq_false HZ.out
        have HR := Shut.mk (show decide (A = B) = false from decide_eq_false (fun h => hxy (by have h1 := HAK.out; rw [h, HBK.out] at h1; exact (Option.some.inj h1).symm)))
        clear hxy
        go_upto_region 6 with (fail)
        refine wp_region_class (fun w' => Below wr.heap.size wr w') (by kernel_rfl) (by kernel_rfl) (Below.refl _ _).drew ?_
        repeat (first
          | go_big_quiet_skip
          | (go_big_quiet_want; refine quiet_load_row 30 _ rfl ga (oa + k * 73) (entL a) _ rfl HR1.out Try.underlying30 rfl HS1.out ?_; go_big_quiet_on; simp only [Act.put, List.setIfInBounds_toArray, List.set_cons_zero, List.set_cons_succ])
          | (go_big_quiet_want; refine quiet_load_row 30 _ rfl gb (ob + k * 73) (entL b) _ rfl HR2.out Try.underlying30 rfl HS2.out ?_; go_big_quiet_on; simp only [Act.put, List.setIfInBounds_toArray, List.set_cons_zero, List.set_cons_succ])
          | (go_big_quiet_want; refine quiet_bin .neq 30 30 _ _ rfl (.agg (entV a)) (.agg (entV b)) _ rfl rfl (HGE.out _ _) HNE.out ?_; go_big_quiet_on; simp only [Act.put, List.setIfInBounds_toArray, List.set_cons_zero, List.set_cons_succ])
          | go_big_quiet_step ((intro hs'; rfl)))
        refine wpQuiet_nil ?_
        intro w3 hb2
        go_wp2_with fail
        go_ret
        exact ⟨by rw [HR.out]; rfl, HBW.out.trans (hb2.mono HBW.out.size)⟩
    · obtain rfl : k = n := by omega
      have HR := Shut.mk (show decide (A = B) = true from decide_eq_true (ents_all HLA.out HLB.out HJ.out))
      go_wp2_with fail
      go_ret
      exact ⟨by rw [HR.out]; rfl, HBW.out⟩
end Go.Proofs.Ytenmkfjgjemiiaa
namespace Go.Proofs.Ytenmkfjgjemiiaa.entryReads
open Go.RowKit Go.BigFrame Go.Proofs.Ytenmkfjgjemiiaa
theorem code_zero (b : Bool) : ((if b then (0 : Int) else 4) == 0) = b := by cases b <;> rfl
theorem code_four (b : Bool) : ((if b then (0 : Int) else 4) == 4) = !b := by cases b <;> rfl
set_option maxHeartbeats 8000000 in
set_option maxRecDepth 100000 in
theorem walk (w : World) (s : List UInt8) (hs : s.length ≤ 140737488351232) :
    Calls Try.prog 4 #[.string ⟨s.toArray⟩] w fun e w' => e = .returned (.bool true) ∧ Below w.heap.size w w' := by
  go_enter Try.func4, Try.ntmps4
  go_wp2_with fail
  refine (alive15_any w).mono ?_
  rintro e w1 ⟨rfl, hb⟩
  have HK1 := Lib.hid hb
  clear hb
  obtain ⟨n, hn⟩ : ∃ n, s.length = n := ⟨_, rfl⟩
  have HN := Shut.mk hn
  rw [hn] at hs
  by_cases hg : 8192 < n
  · have hgi : (8192 : Int) < (n : Int) := by omega
    go_wp2_with fail
    go_ret
    exact ⟨rfl, HK1.out⟩
  have hgi : ¬ (8192 : Int) < (n : Int) := by omega
  have HNL := Lib.hid (show s.length ≤ 8192 by rw [hn]; omega)
  have HA := Lib.hid (fun w' => dev_read15 s w' (by have := HNL.out; omega))
  have HB := Lib.hid (fun w' => ref_read15 s w' (by have := HNL.out; omega))
  have HC := Lib.hid (fun w' => dev_readAll15 s w' (by have := HNL.out; omega))
  have HD := Lib.hid (fun w' => ref_readAll15 s w' (by have := HNL.out; omega))
  have HZE := Lib.hid (show (Try.prog.info? 30).bind (·.zero) = some (.agg (entL noE).toArray) by kernel_rfl)
  obtain ⟨qe, hqe⟩ : ∃ q, readE s = q := ⟨_, rfl⟩
  obtain ⟨ql, hql⟩ : ∃ q, readAllE s = q := ⟨_, rfl⟩
  rw [hqe] at HA HB
  rw [hql] at HC HD
  unfold DrE at HA
  unfold RdE at HB
  obtain ⟨E, hE⟩ : ∃ d, qe.getD noE = d := ⟨_, rfl⟩
  obtain ⟨b1, hb1⟩ : ∃ b, qe.isSome = b := ⟨_, rfl⟩
  rw [hE, hb1] at HA HB
  have HEL := Lib.hid (show E.Len by
    rw [← hE]
    cases qe with
    | none => exact noE_len
    | some x => exact (readE_some hqe).2.1.len (readE_some hqe).2.2)
  have HTE := Lib.hid (show b1 = true → ∀ w', Calls Try.prog 12 #[.agg (entV E)] w' fun e w'' => e = .returned (.string ⟨s.toArray⟩) ∧ Below w'.heap.size w' w'' from fun h w' => by
    cases qe with
    | none => rw [← hb1] at h; cases h
    | some x =>
      have h1 := readE_some hqe
      obtain rfl : x = E := hE
      have h2 := dev_text15 x HEL.out (readE_seq hqe) w'
      rw [h1.1] at h2
      exact h2)
  obtain ⟨L, hL⟩ : ∃ L, ql.getD [] = L := ⟨_, rfl⟩
  obtain ⟨b3, hb3⟩ : ∃ b, ql.isSome = b := ⟨_, rfl⟩
  have HLOK := Lib.hid (show (∀ x ∈ L, x.Len ∧ x.seq < 9223372036854775808) ∧ L.length ≤ 262144 by
    rw [← hL]
    cases ql with
    | none => exact ⟨fun x hx => (by cases hx), Nat.zero_le _⟩
    | some l =>
      have h1 := readAllE_some hql
      have h2 := readAllE_fit hql
      exact ⟨fun x hx => ⟨(h1.2 x hx).1.len (h1.2 x hx).2, (h2 x hx).seq⟩, readAllE_len hql⟩)
  have HTL := Lib.hid (show b3 = true → ∀ ao c w', EntsAt ao L w' → Calls Try.prog 16 #[.slice ao L.length c] w' fun e w'' => e = .returned (.string ⟨s.toArray⟩) ∧ Below w'.heap.size w' w'' from fun h ao c w' hia => by
    cases ql with
    | none => rw [← hb3] at h; cases h
    | some x =>
      have h1 := readAllE_some hql
      obtain rfl : x = L := hL
      have h2 := dev_texts15 ao x c w' HLOK.out.1 (by have := HLOK.out.2; omega) (by rw [h1.1]; have := HNL.out; omega) hia
      rw [h1.1] at h2
      exact h2)
  have HSE := Lib.hid (sizeEV HEL.out.ok)
  have HSZ := Lib.hid (show (entV noE).size = (entV E).size by rw [entV_size HEL.out.ok]; rfl)
  have heq := fun w' => equal_ent E E HEL.out.ok HEL.out.ok w'
  rw [decide_eq_true (rfl : E = E)] at heq
  have HS3 := Lib.hid (fun pa pb ca cb w' h1 h2 => ref_same15 L L pa pb ca cb w' (fun x hx => (HLOK.out.1 x hx).1.ok) (fun x hx => (HLOK.out.1 x hx).1.ok) h1 h2 (by have := HLOK.out.2; omega) (by have := HLOK.out.2; omega))
  rw [decide_eq_true (rfl : L = L)] at HS3
  obtain ⟨e1, he1⟩ : ∃ e, (if b1 then (0 : Int) else 4) = e := ⟨_, rfl⟩
  obtain ⟨e3, he3⟩ : ∃ e, (if b3 then (0 : Int) else 4) = e := ⟨_, rfl⟩
  rw [he1] at HA
  have z1 : (e1 == 0) = b1 := by rw [← he1]; exact code_zero b1
  have z3 : (e3 == 0) = b3 := by rw [← he3]; exact code_zero b3
  have f1 : (e1 == 4) = !b1 := by rw [← he1]; exact code_four b1
  have f3 : (e3 == 4) = !b3 := by rw [← he3]; exact code_four b3
  have HCL := Lib.hid (show ∀ w', Calls Try.prog 20 #[.string ⟨s.toArray⟩] w' fun e w'' => (∃ ao c, e = .returned (.tuple #[.slice ao L.length c, .int .i64 e3]) ∧ EntsAt ao L w'') ∧ Below w'.heap.size w' w'' from fun w' => (HC.out w').mono (by
    rintro e w'' ⟨⟨v, h1, h2⟩, h3⟩
    rw [hL] at h2
    obtain ⟨ao, c, rfl⟩ := h2.form
    exact ⟨⟨ao, c, by rw [h1, hb3, he3], h2.at⟩, h3⟩))
  have HDL := Lib.hid (show ∀ w', Calls Try.prog 21 #[.string ⟨s.toArray⟩] w' fun e w'' => (∃ ao c, e = .returned (.tuple #[.slice ao L.length c, .bool b3]) ∧ EntsAt ao L w'') ∧ Below w'.heap.size w' w'' from fun w' => (HD.out w').mono (by
    rintro e w'' ⟨⟨v, h1, h2⟩, h3⟩
    rw [hL] at h2
    obtain ⟨ao, c, rfl⟩ := h2.form
    exact ⟨⟨ao, c, by rw [h1, hb3], h2.at⟩, h3⟩))
  obtain ⟨m, hm⟩ : ∃ m, L.length = m := ⟨_, rfl⟩
  rw [hm] at HCL HDL HS3 HTL
  clear HC HD hqe hql hE hL hb1 hb3 he1 he3 hm hs HNL HN hg
  go_wp2_with fail
  refine (HA.out w1).mono ?_
  rintro e w2 ⟨rfl, hb⟩
  have HK2 := Lib.hid (HK1.out.trans (hb.mono HK1.out.size))
  clear hb HK1
  go_wp2_with (first
    | (refine wpList_alloc_of rfl 30 rfl (entL noE) HZE.out ?_)
    | (refine wpList_store_cells rfl 30 _ _ rfl rfl w2.heap.size (entV noE) (entV E) 30 rfl rfl (heap_alloc_new w2 _) HSE.out HSZ.out (entV_all E) ?_))
  intro w3 hc hb
  have hb3 : Below w2.heap.size w2 w3 := But.toBelow ((Below.refl _ w2).alloc (Nat.le_refl _) _) hb.out (Nat.le_refl _) (by rw [World.size_alloc]; exact Nat.le_succ _)
  have HX3 := Lib.hid hc.out
  have HK3 := Lib.hid (HK2.out.trans (hb3.mono HK2.out.size))
  obtain ⟨gx, hgx⟩ : ∃ g, w2.heap.size = g := ⟨_, rfl⟩
  rw [hgx] at HX3 ⊢
  clear hc hb hb3 HK2 hgx
  go_wp2_with fail
  refine (HB.out w3).mono ?_
  rintro e w4 ⟨rfl, hb⟩
  have HX4 := Lib.hid (HX3.out.below hb)
  have HK4 := Lib.hid (HK3.out.trans (hb.mono HK3.out.size))
  clear hb HK3 HX3
  go_wp2_with (first
    | (refine wpList_alloc_of rfl 30 rfl (entL noE) HZE.out ?_)
    | (refine wpList_store_cells rfl 30 _ _ rfl rfl w4.heap.size (entV noE) (entV E) 30 rfl rfl (heap_alloc_new w4 _) HSE.out HSZ.out (entV_all E) ?_))
  intro w5 hc hb
  have hb5 : Below w4.heap.size w4 w5 := But.toBelow ((Below.refl _ w4).alloc (Nat.le_refl _) _) hb.out (Nat.le_refl _) (by rw [World.size_alloc]; exact Nat.le_succ _)
  have HX5 := Lib.hid (HX4.out.below hb5)
  have HY5 := Lib.hid hc.out
  have HK5 := Lib.hid (HK4.out.trans (hb5.mono HK4.out.size))
  obtain ⟨gy, hgy⟩ : ∃ g, w4.heap.size = g := ⟨_, rfl⟩
  rw [hgy] at HY5 ⊢
  clear hc hb hb5 HK4 hgy HX4
  go_wp2_with fail
  refine (HCL.out w5).mono ?_
  rintro e w6 ⟨⟨pa, pc, rfl, hia⟩, hb⟩
  have HI6 := Lib.hid hia
  have HX6 := Lib.hid (HX5.out.below hb)
  have HY6 := Lib.hid (HY5.out.below hb)
  have HK6 := Lib.hid (HK5.out.trans (hb.mono HK5.out.size))
  clear hb hia HK5 HX5 HY5
  go_wp2_with fail
  refine (HDL.out w6).mono ?_
  rintro e w7 ⟨⟨pb, pd, rfl, hib⟩, hb⟩
  have HI7 := Lib.hid (HI6.out.below hb)
  have HJ7 := Lib.hid hib
  have HX7 := Lib.hid (HX6.out.below hb)
  have HY7 := Lib.hid (HY6.out.below hb)
  have HK7 := Lib.hid (HK6.out.trans (hb.mono HK6.out.size))
  clear hb hib HK6 HX6 HY6 HI6
  cases b1 with
  | true =>
    have HTE1 := Lib.hid (HTE.out rfl)
    cases b3 with
    | true =>
      have HTL1 := Lib.hid (HTL.out rfl)
      clear HTE HTL
      go_wp2_with (first
        | (refine wpList_load_cells rfl 30 _ rfl gx (entV E) 30 _ rfl HX7.out Try.underlying30 rfl HSE.out ?_)
        | (refine wpList_load_cells rfl 30 _ rfl gy (entV E) 30 _ rfl HY7.out Try.underlying30 rfl HSE.out ?_))
      refine (HS3.out pa pb pc pd w7 HI7.out HJ7.out).mono ?_
      rintro e w8 ⟨rfl, hb⟩
      have HX8 := Lib.hid (HX7.out.below hb)
      have HI8 := Lib.hid (HI7.out.below hb)
      have HK8 := Lib.hid (HK7.out.trans (hb.mono HK7.out.size))
      clear hb
      go_wp2_with (refine wpList_load_cells_want (by rfl) 30 _ rfl gx (entV E) 30 _ rfl HX8.out Try.underlying30 rfl HSE.out ?_)
      refine (HTE1.out w8).mono ?_
      rintro e w9 ⟨rfl, hb⟩
      have HI9 := Lib.hid (HI8.out.below hb)
      have HK9 := Lib.hid (HK8.out.trans (hb.mono HK8.out.size))
      clear hb
      go_wp2_with fail
      refine (HTL1.out pa pc w9 HI9.out).mono ?_
      rintro e wa ⟨rfl, hb⟩
      have HKa := Lib.hid (HK9.out.trans (hb.mono HK9.out.size))
      clear hb
      go_wp2_with fail
      go_ret
      exact ⟨rfl, HKa.out⟩
    | false =>
      clear HTE HTL
      go_wp2_with (first
        | (refine wpList_load_cells rfl 30 _ rfl gx (entV E) 30 _ rfl HX7.out Try.underlying30 rfl HSE.out ?_)
        | (refine wpList_load_cells rfl 30 _ rfl gy (entV E) 30 _ rfl HY7.out Try.underlying30 rfl HSE.out ?_))
      refine (HS3.out pa pb pc pd w7 HI7.out HJ7.out).mono ?_
      rintro e w8 ⟨rfl, hb⟩
      have HX8 := Lib.hid (HX7.out.below hb)
      have HK8 := Lib.hid (HK7.out.trans (hb.mono HK7.out.size))
      clear hb
      go_wp2_with (refine wpList_load_cells_want (by rfl) 30 _ rfl gx (entV E) 30 _ rfl HX8.out Try.underlying30 rfl HSE.out ?_)
      refine (HTE1.out w8).mono ?_
      rintro e w9 ⟨rfl, hb⟩
      have HK9 := Lib.hid (HK8.out.trans (hb.mono HK8.out.size))
      clear hb
      go_wp2_with fail
      go_ret
      exact ⟨rfl, HK9.out⟩
  | false =>
    cases b3 with
    | true =>
      have HTL1 := Lib.hid (HTL.out rfl)
      clear HTE HTL
      go_wp2_with (first
        | (refine wpList_load_cells rfl 30 _ rfl gx (entV E) 30 _ rfl HX7.out Try.underlying30 rfl HSE.out ?_)
        | (refine wpList_load_cells rfl 30 _ rfl gy (entV E) 30 _ rfl HY7.out Try.underlying30 rfl HSE.out ?_))
      refine (HS3.out pa pb pc pd w7 HI7.out HJ7.out).mono ?_
      rintro e w8 ⟨rfl, hb⟩
      have HI8 := Lib.hid (HI7.out.below hb)
      have HK8 := Lib.hid (HK7.out.trans (hb.mono HK7.out.size))
      clear hb
      go_wp2_with fail
      refine (HTL1.out pa pc w8 HI8.out).mono ?_
      rintro e wa ⟨rfl, hb⟩
      have HKa := Lib.hid (HK8.out.trans (hb.mono HK8.out.size))
      clear hb
      go_wp2_with fail
      go_ret
      exact ⟨rfl, HKa.out⟩
    | false =>
      clear HTE HTL
      go_wp2_with (first
        | (refine wpList_load_cells rfl 30 _ rfl gx (entV E) 30 _ rfl HX7.out Try.underlying30 rfl HSE.out ?_)
        | (refine wpList_load_cells rfl 30 _ rfl gy (entV E) 30 _ rfl HY7.out Try.underlying30 rfl HSE.out ?_))
      refine (HS3.out pa pb pc pd w7 HI7.out HJ7.out).mono ?_
      rintro e w8 ⟨rfl, hb⟩
      have HK8 := Lib.hid (HK7.out.trans (hb.mono HK7.out.size))
      clear hb
      go_wp2_with fail
      go_ret
      exact ⟨rfl, HK8.out⟩
end Go.Proofs.Ytenmkfjgjemiiaa.entryReads
namespace Go.Proofs.Ytenmkfjgjemiiaa.entryReads
open Go.ChangeShapes Go.WideShapes Go.ChangeAt Go.RowKit
open Go.ChangeMaps (open_string shut_string)
set_option linter.unusedVariables false
set_option maxRecDepth 100000 in
theorem lifted (os : Os) (started : os.Started) (H : Type) (enc : TypeId × Value → H) :
    ReturnsInHanded {} Try.checked os 4 .any (Rows.entryReadsSpec.pre6 enc Try.prog Try.f4 Rows.entryReadsRow.domain false) (Rows.entryReadsSpec.post enc Try.prog Try.f4 false true false false) := by
  refine returnsInHanded_of_change_sized (C := Try.checked) law_own started (by kernel_rfl) Try.func4
    (ChangeSpec.witness6 (enc := enc) (C := Try.checked) false ⟨#[], #[.string ByteArray.empty], []⟩ 8 (by kernel_rfl) (by kernel_rfl) (by kernel_rfl) (by kernel_rfl)) ?_
  intro W base args ds gs before hval0 hW hcnd hsz0 _
  have hsz : (DataW.weightsEach Try.prog (Try.f4.params.toList ++ Rows.entryReadsSpec.plain.varTypes Try.prog) (ds ++ gs)).all (· ≤ reachBytes) = true := hsz0
  have hval : ∀ (j : Nat) t v, Try.f4.params[j]? = some t → args[j]? = some v → Value.okWide Try.prog W .any base t v := hval0
  have hW' := hW
  obtain ⟨p, q, hA0, hV, rfl, hfz, hnd⟩ := hW
  have hA : DataW.TrodAll enc Try.prog W 0 (fun _ => true) true Try.f4.params.toList args.toList ds p := hA0
  rw [Try.params4] at hA hval hsz
  obtain ⟨v0, vs0, d0, ds0, p0, q0, hargs, rfl, rfl, h0, r0⟩ := trodAll_cons hA
  obtain ⟨rfl, rfl, rfl⟩ := trodAll_nil r0
  obtain rfl : args = #[v0] := by cases args; simp_all
  obtain ⟨rfl, rfl⟩ := trodVars_none hV
  obtain ⟨a0, rfl, rfl, rfl, w0⟩ := open_string Try.underlying9 (hval 0 9 v0 rfl rfl) h0
  have z0 : a0.data.toList.length ≤ 140737488351232 := sized_string hsz (j := 0) (t := 9) rfl rfl
  clear hA0 hval0
  refine (walk W a0.data.toList z0).mono fun e W' ⟨he, bel⟩ => ?_
  subst he
  exact ⟨_, rfl, _, _, _, [], _, [], hW', trodAll_mk1 (shut_bool Try.underlying4 _), (trodAll_cons_mk (shut_string Try.underlying9 w0) trodAll_mk0), rfl, bel.frame _, fun h => by cases h⟩
theorem proved : Rows.EntryReadsSaid :=
  OpenClaim.holds_of_wide 4 Try.f4 rfl rfl rfl rfl rfl rfl rfl ⟨rfl, rfl, rfl, rfl, rfl⟩ rfl rfl rfl rfl rfl (by kernel_rfl) Try.func4 (by kernel_rfl)
    (of_decide_eq_true (by kernel_rfl)) (by unfold Func.isWrapper; first | (rw [if_pos (by decide +kernel)]; kernel_rfl) | (rw [if_neg (by decide +kernel)]; exact ⟨rfl, rfl⟩))
    (fun os started H enc _ => lifted os started H enc)
#print axioms proved
end Go.Proofs.Ytenmkfjgjemiiaa.entryReads
