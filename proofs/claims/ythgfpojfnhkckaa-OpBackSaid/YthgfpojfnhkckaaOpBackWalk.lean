/-
  The walk of OpBack. Written by op/gen/gen_backw.py.
-/
import Derived.Test.YthgfpojfnhkckaaAlive9
import Derived.Test.YthgfpojfnhkckaaGreat9
import Derived.Test.YthgfpojfnhkckaaOpArgs
import Derived.Test.YthgfpojfnhkckaaOpDrb
import Derived.Test.YthgfpojfnhkckaaOpBat
import Derived.Test.YthgfpojfnhkckaaOpAll
import Derived.Test.YthgfpojfnhkckaaOpSame
namespace Go.Proofs.Ythgfpojfnhkckaa.opBack
open Go.RowKit Go.BigFrame Go.Proofs.Ythgfpojfnhkckaa

/-- What the law lets through of an operation. -/
structure Thru (o : OpN) : Prop where
  small : o.Small
  pos : o.Pos
  fit : o.Fit
theorem thru {o : OpN} (h : o.In) (hg : great9N o = false) (ha : ¬ o.author < 0) (hd : ¬ o.depth < 0) (hk : ¬ o.d.kind < 0) : Thru o := by
  unfold great9N at hg
  have h1 := of_decide_eq_false hg
  have q1 := h.d.high
  have q2 := h.ahigh
  have q3 := h.dhigh
  exact ⟨⟨by omega, by omega, by omega, by omega, by omega, h.ok, by omega⟩, ⟨by omega, by omega, by omega⟩, ⟨h.d.ref, h.d.low, h.d.high, by omega, by omega⟩, h.alow, h.ahigh, h.dlow, h.dhigh, h.preds, by omega⟩
set_option maxHeartbeats 8000000 in
set_option maxRecDepth 100000 in
theorem walk (w : World) (ao : Option Addr) (L : List OpN) (c : Nat) (hp : OpsAt ao L w) (hL : ∀ x ∈ L, x.In) (hn : L.length ≤ 140737488351232) :
    Calls Try.prog 5 #[.slice ao L.length c] w fun e w' => e = .returned (.bool true) ∧ Below w.heap.size w w' := by
  have HP := Lib.hid hp
  have HIN := Lib.hid hL
  obtain ⟨n, hnn⟩ : ∃ n, L.length = n := ⟨_, rfl⟩
  have HNN := Shut.mk hnn
  rw [hnn] at hn ⊢
  clear hp hL hnn
  go_enter Try.func5, Try.ntmps5
  go_wp2_with fail
  refine (alive9_any w).mono ?_
  rintro e w1 ⟨rfl, hb⟩
  have HB1 := Lib.hid hb
  have HZD := Lib.hid (show (Try.prog.info? 25).bind (·.zero) = some (.agg (draftL zeroD).toArray) by kernel_rfl)
  have HZO := Lib.hid (show (Try.prog.info? 28).bind (·.zero) = some (.agg (opL zeroO none 0).toArray) by kernel_rfl)
  clear hb
  obtain ⟨b8, hb8⟩ : ∃ b, decide ((n : Int) ≤ 8) = b := ⟨_, rfl⟩
  have HB8 := Shut.mk hb8
  go_wp2_with fail
  go_loopw [3, 19] (fun v i wr => ∃ k : Nat, k ≤ n ∧ i = .int .i64 k ∧ v = .bool (b8 && (L.take k).all fun o => decide (GoodO o)) ∧ (0 < k → n ≤ 10) ∧ (∀ o ∈ L.take k, Thru o) ∧ Below w.heap.size w wr) (fun _ i _ => n - (intOf i).toNat)
  case atStart => exact ⟨0, Nat.zero_le _, rfl, by simp, fun h => by omega, fun o ho => by simp at ho, HB1.out⟩
  case round =>
    obtain ⟨k, hk, rfl, rfl, h10, hthru, hb⟩ := hrel
    have HTHR := Lib.hid hthru
    have HBW := Lib.hid hb
    have HPW := Lib.hid (HP.out.below hb)
    obtain ⟨bg, hbg⟩ : ∃ b, (b8 && (L.take k).all fun o => decide (GoodO o)) = b := ⟨_, rfl⟩
    have HBG := Shut.mk hbg
    rw [hbg]
    clear hbg hthru hb
    by_cases hlt : k < n
    · clear h10
      obtain ⟨y, hy⟩ : ∃ y, L[k]? = some y := ⟨_, List.getElem?_eq_getElem (by rw [HNN.out]; exact hlt)⟩
      have HYK := Shut.mk hy
      have HYI := Lib.hid (HIN.out y (List.mem_of_getElem? hy))
      have HTK := Lib.hid (show L.take (k + 1) = L.take k ++ [y] by
        have h1 : L[k]'(by rw [HNN.out]; exact hlt) = y := by
          rw [List.getElem?_eq_getElem (by rw [HNN.out]; exact hlt)] at hy
          exact Option.some.inj hy
        rw [List.take_succ_eq_append_getElem (by rw [HNN.out]; exact hlt), h1])
      obtain ⟨b, ob, rfl, hbl, pa, pc, hr, hia⟩ := HPW.out.get hy
      have HR := Lib.hid hr
      have HIA := Lib.hid hia
      have HSO := Lib.hid (show (Try.prog.info? 28).map (·.size) = some (opL y pa pc).length by rw [opL_len HYI.out.ok.ref.1]; exact Try.sizeO)
      have HSV := Lib.hid (show (Try.prog.info? 28).map (·.size) = some (opV y pa pc).size by rw [opV_size HYI.out.ok.ref.1]; exact Try.sizeO)
      have HSZ := Lib.hid (show (opV zeroO none 0).size = (opV y pa pc).size by rw [opV_size HYI.out.ok.ref.1]; rfl)
      clear hy hr hia hbl
      go_wp2_with (first
        | (refine wpList_load_mid rfl 28 _ rfl b (ob + k * 38) rfl _ _ HR.out Try.underlying28 rfl HSO.out ?_)
        | (refine wpList_alloc_of rfl 28 rfl (opL zeroO none 0) HZO.out ?_)
        | (refine wpList_store_cells rfl 28 _ _ rfl rfl wr.heap.size (opV zeroO none 0) (opV y pa pc) 28 rfl rfl (heap_alloc_new wr _) HSV.out HSZ.out (opV_all y pa pc) ?_))
      intro w4 hc hb
      have hb4 : Below wr.heap.size wr w4 := But.toBelow ((Below.refl _ wr).alloc (Nat.le_refl _) _) hb.out (Nat.le_refl _) (by rw [World.size_alloc]; exact Nat.le_succ _)
      have HC4 := Lib.hid hc.out
      have HB4 := Lib.hid (HBW.out.trans (hb4.mono HBW.out.size))
      have HIA4 := Lib.hid (HIA.out.below hb4)
      obtain ⟨g5, hg5⟩ : ∃ g, wr.heap.size = g := ⟨_, rfl⟩
      rw [hg5] at HC4 ⊢
      clear hc hb hb4 HBW HIA HR HSO hg5
      have HG := Lib.hid (fun w' => great9_any y pa pc w' HYI.out.d.ref.1 (by have := HYI.out.many; omega) HYI.out.d.key HYI.out.d.val)
      obtain ⟨gr, hgr⟩ : ∃ g, great9N y = g := ⟨_, rfl⟩
      rw [hgr] at HG
      have HGR := Shut.mk hgr
      clear hgr
      go_wp2_with (refine wpList_load_cells rfl 28 _ rfl g5 (opV y pa pc) 28 _ rfl HC4.out Try.underlying28 rfl HSV.out ?_)
      refine (HG.out w4).mono ?_
      rintro e w5 ⟨rfl, hb⟩
      have HC5 := Lib.hid (HC4.out.below hb)
      have HB5 := Lib.hid (HB4.out.trans (hb.mono HB4.out.size))
      have HIA5 := Lib.hid (HIA4.out.below hb)
      clear hb HC4 HB4 HIA4 HG
      obtain ⟨cr, c35, c36, _⟩ := op_cells HYI.out.ok.ref.1 HC5.out
      obtain ⟨c0, _, _, _⟩ := op_fields cr
      obtain ⟨A, hA⟩ : ∃ A, y.author = A := ⟨_, rfl⟩
      obtain ⟨D, hD⟩ : ∃ A, y.depth = A := ⟨_, rfl⟩
      obtain ⟨K, hK⟩ : ∃ A, y.d.kind = A := ⟨_, rfl⟩
      rw [hA] at c35
      rw [hD] at c36
      rw [hK] at c0
      have HCR := Lib.hid cr
      clear cr
      cases gr with
      | true =>
        go_wp2_with fail
        go_ret
        exact ⟨rfl, HB5.out⟩
      | false =>
      by_cases h10 : 10 < n
      · have h10i : decide ((10 : Int) < (n : Int)) = true := decide_eq_true (by omega)
        go_wp2_with fail
        go_ret
        exact ⟨rfl, HB5.out⟩
      have h10i : decide ((10 : Int) < (n : Int)) = false := decide_eq_false (by omega)
      by_cases ha0 : A < 0
      · have hai : decide (A < 0) = true := decide_eq_true ha0
        go_wp2_with fail
        go_ret
        exact ⟨rfl, HB5.out⟩
      have hai : decide (A < 0) = false := decide_eq_false ha0
      by_cases hd0 : D < 0
      · have hdi : decide (D < 0) = true := decide_eq_true hd0
        go_wp2_with fail
        go_ret
        exact ⟨rfl, HB5.out⟩
      have hdi : decide (D < 0) = false := decide_eq_false hd0
      by_cases hk0 : K < 0
      · have hki : decide (K < 0) = true := decide_eq_true hk0
        go_wp2_with fail
        go_ret
        exact ⟨rfl, HB5.out⟩
      have hki : decide (K < 0) = false := decide_eq_false hk0
      have HTH := Lib.hid (thru HYI.out HGR.out (by rw [hA]; exact ha0) (by rw [hD]; exact hd0) (by rw [hK]; exact hk0))
      have h10n : n ≤ 10 := by omega
      clear h10 hA hD hK ha0 hd0 hk0
      -- what is read
      have HTO := Lib.hid (fun w' (h : IAt pa y.preds w') => dev_text9 y pa pc w' HTH.out.fit h)
      have HRO := Lib.hid (fun w' => dev_readOp (opB y) w' (by have := HTH.out.small.len; omega))
      rw [HTH.out.small.reads HTH.out.pos] at HRO
      have HTD := Lib.hid (fun w' => dev_draftText y.d HTH.out.fit.d w')
      have HRD := Lib.hid (fun w' => dev_readDraft (draftB y.d) w' (by have := HTH.out.small.dlen; omega))
      rw [HTH.out.small.readsD HTH.out.pos] at HRD
      have HGO := Lib.hid (fun w' (h : IAt pa y.preds w') => dev_goodOp y pa pc w' HTH.out.fit.ok h HYI.out.d.key HYI.out.d.val (by have := HTH.out.fit.many; omega))
      have HGD := Lib.hid (fun w' => dev_goodDraft y.d HTH.out.fit.d.ref HYI.out.d.key HYI.out.d.val w')
      obtain ⟨T1, hT1⟩ : ∃ T, opB y = T := ⟨_, rfl⟩
      obtain ⟨T2, hT2⟩ : ∃ T, draftB y.d = T := ⟨_, rfl⟩
      rw [hT1] at HTO HRO
      rw [hT2] at HTD HRD
      clear hT1 hT2
      have HSD := Lib.hid (show (Try.prog.info? 25).map (·.size) = some (draftL y.d).length by rw [draftL_len HYI.out.ok.ref.1]; exact Try.sizeD)
      have HSX := Lib.hid (show (Try.prog.info? 25).map (·.size) = some (draftV y.d).size by rw [draftV_size HYI.out.ok.ref.1]; exact Try.sizeD)
      have HSW := Lib.hid (show (draftV zeroD).size = (draftV y.d).size by rw [draftV_size HYI.out.ok.ref.1]; rfl)
      have heq := fun w' => equal_draft y.d y.d HTH.out.fit.d.ref HTH.out.fit.d.ref w'
      rw [decide_eq_true (rfl : y.d = y.d)] at heq
      have HEQ := Lib.hid (show ∀ w', (Op.equalIn 10000 25 (.agg (draftV y.d)) (.agg (draftL y.d).toArray)).run Try.prog w' = .ok true w' from heq)
      clear heq
      have HS2 := Lib.hid (fun qa qc w' h1 h2 => ref_same9 y y qa pa qc pc w' HTH.out.fit.ok HTH.out.fit.ok h1 h2 (by have := HTH.out.fit.many; omega) (by have := HTH.out.fit.many; omega))
      rw [decide_eq_true (rfl : y = y)] at HS2
      by_cases hgo : GoodO y
      · have hgd : GoodD y.d := hgo.2.2.2.2.1
        rw [if_pos hgo] at HRO
        rw [if_pos hgd] at HRD
        rw [decide_eq_true hgo] at HGO
        rw [decide_eq_true hgd] at HGD
        have HZ := Shut.mk (show (b8 && (L.take (k + 1)).all fun o => decide (GoodO o)) = bg by rw [HTK.out, List.all_append, ← Bool.and_assoc, HBG.out]; simp [hgo])
        clear hgo hgd
        go_wp2_with (first | (refine wpList_load_cells rfl 28 _ rfl g5 (opV y pa pc) 28 _ rfl HC5.out Try.underlying28 rfl HSV.out ?_) | (refine wpList_load_cells_want (by rfl) 28 _ rfl g5 (opV y pa pc) 28 _ rfl HC5.out Try.underlying28 rfl HSV.out ?_))
        refine (HTO.out w5 HIA5.out).mono ?_
        rintro e w6 ⟨rfl, hb⟩
        have HC6 := Lib.hid (HC5.out.below hb)
        have HB6 := Lib.hid (HB5.out.trans (hb.mono HB5.out.size))
        have HIA6 := Lib.hid (HIA5.out.below hb)
        clear hb HC5 HB5 HIA5 HTO
        go_wp2_with fail
        refine (HRO.out w6).mono ?_
        rintro e w7 ⟨⟨qa, qc, rfl, hia, _⟩, hb⟩
        have HC7 := Lib.hid (HC6.out.below hb)
        have HB7 := Lib.hid (HB6.out.trans (hb.mono HB6.out.size))
        have HIA7 := Lib.hid (HIA6.out.below hb)
        have HIX7 := Lib.hid (show IAt qa y.preds w7 from hia)
        clear hb hia HC6 HB6 HIA6 HRO
        unfold DrO
        simp only [Option.getD_some, Option.isSome_some]
        go_wp2_with (first
          | (refine wpList_alloc_of rfl 28 rfl (opL zeroO none 0) HZO.out ?_)
          | (refine wpList_store_cells rfl 28 _ _ rfl rfl w7.heap.size (opV zeroO none 0) (opV y qa qc) 28 rfl rfl (heap_alloc_new w7 _) (by rw [opV_size (HYI.out.ok.ref.1)]; exact Try.sizeO) (by rw [opV_size (HYI.out.ok.ref.1)]; rfl) (opV_all y qa qc) ?_))
        intro w8 hc hb
        have hb8 : Below w7.heap.size w7 w8 := But.toBelow ((Below.refl _ w7).alloc (Nat.le_refl _) _) hb.out (Nat.le_refl _) (by rw [World.size_alloc]; exact Nat.le_succ _)
        have HX8 := Lib.hid hc.out
        have HC8 := Lib.hid (HC7.out.below hb8)
        have HB8' := Lib.hid (HB7.out.trans (hb8.mono HB7.out.size))
        have HIA8 := Lib.hid (HIA7.out.below hb8)
        have HIX8 := Lib.hid (HIX7.out.below hb8)
        obtain ⟨gx, hgx⟩ : ∃ g, w7.heap.size = g := ⟨_, rfl⟩
        rw [hgx] at HX8 ⊢
        clear hc hb hb8 hgx HC7 HB7 HIA7 HIX7
        have HCR8 := Lib.hid (op_cells HYI.out.ok.ref.1 HC8.out).1
        go_wp2_with (first | (refine wpList_load_mid rfl 25 _ rfl g5 0 rfl _ _ HCR8.out Try.underlying25 rfl HSD.out ?_))
        refine (HTD.out w8).mono ?_
        rintro e w9 ⟨rfl, hb⟩
        have HC9 := Lib.hid (HC8.out.below hb)
        have HX9 := Lib.hid (HX8.out.below hb)
        have HB9 := Lib.hid (HB8'.out.trans (hb.mono HB8'.out.size))
        have HIA9 := Lib.hid (HIA8.out.below hb)
        have HIX9 := Lib.hid (HIX8.out.below hb)
        clear hb HC8 HB8' HIA8 HIX8 HX8 HTD HCR8
        go_wp2_with fail
        refine (HRD.out w9).mono ?_
        rintro e wa ⟨rfl, hb⟩
        have HCa := Lib.hid (HC9.out.below hb)
        have HXa := Lib.hid (HX9.out.below hb)
        have HBa := Lib.hid (HB9.out.trans (hb.mono HB9.out.size))
        have HIAa := Lib.hid (HIA9.out.below hb)
        have HIXa := Lib.hid (HIX9.out.below hb)
        clear hb HC9 HB9 HIA9 HIX9 HX9 HRD
        unfold DrD
        simp only [Option.getD_some, Option.isSome_some]
        go_wp2_with (first
          | (refine wpList_alloc_of rfl 25 rfl (draftL zeroD) HZD.out ?_)
          | (refine wpList_store_cells rfl 25 _ _ rfl rfl wa.heap.size (draftV zeroD) (draftV y.d) 25 rfl rfl (heap_alloc_new wa _) (HSX.out) (by exact HSW.out) (draftV_all y.d) ?_))
        intro wb hc hb
        have hbb : Below wa.heap.size wa wb := But.toBelow ((Below.refl _ wa).alloc (Nat.le_refl _) _) hb.out (Nat.le_refl _) (by rw [World.size_alloc]; exact Nat.le_succ _)
        have HZb := Lib.hid hc.out
        have HCb := Lib.hid (HCa.out.below hbb)
        have HXb := Lib.hid (HXa.out.below hbb)
        have HBb := Lib.hid (HBa.out.trans (hbb.mono HBa.out.size))
        have HIAb := Lib.hid (HIAa.out.below hbb)
        have HIXb := Lib.hid (HIXa.out.below hbb)
        obtain ⟨gz, hgz⟩ : ∃ g, wa.heap.size = g := ⟨_, rfl⟩
        rw [hgz] at HZb ⊢
        clear hc hb hbb hgz HCa HXa HBa HIAa HIXa
        go_wp2_with (first | (refine wpList_load_cells rfl 28 _ rfl g5 (opV y pa pc) 28 _ rfl HCb.out Try.underlying28 rfl HSV.out ?_) | (refine wpList_load_cells_want (by rfl) 28 _ rfl g5 (opV y pa pc) 28 _ rfl HCb.out Try.underlying28 rfl HSV.out ?_))
        refine (HGO.out wb HIAb.out).mono ?_
        rintro e wc ⟨rfl, hb⟩
        have HCc := Lib.hid (HCb.out.below hb)
        have HXc := Lib.hid (HXb.out.below hb)
        have HZc := Lib.hid (HZb.out.below hb)
        have HIAc := Lib.hid (HIAb.out.below hb)
        have HIXc := Lib.hid (HIXb.out.below hb)
        have HBc := Lib.hid (HBb.out.trans (hb.mono HBb.out.size))
        have HCRc := Lib.hid (op_cells HYI.out.ok.ref.1 HCc.out).1
        clear hb HCb HXb HZb HIAb HIXb HBb
        go_wp2_with (first | (refine wpList_load_mid rfl 25 _ rfl g5 0 rfl _ _ HCRc.out Try.underlying25 rfl HSD.out ?_) | (refine wpList_load_mid_want (by rfl) 25 _ rfl g5 0 rfl _ _ HCRc.out Try.underlying25 rfl HSD.out ?_))
        refine (HGD.out wc).mono ?_
        rintro e wd ⟨rfl, hb⟩
        have HCd := Lib.hid (HCc.out.below hb)
        have HXd := Lib.hid (HXc.out.below hb)
        have HZd := Lib.hid (HZc.out.below hb)
        have HIAd := Lib.hid (HIAc.out.below hb)
        have HIXd := Lib.hid (HIXc.out.below hb)
        have HBd := Lib.hid (HBc.out.trans (hb.mono HBc.out.size))
        have HCRd := Lib.hid (op_cells HYI.out.ok.ref.1 HCd.out).1
        clear hb HCc HXc HZc HIAc HIXc HBc HCRc
        go_wp2_with (first | (refine wpList_load_cells_want (by rfl) 28 _ rfl gx (opV y qa qc) 28 _ rfl HXd.out Try.underlying28 rfl (by rw [opV_size (HYI.out.ok.ref.1)]; exact Try.sizeO) ?_) | (refine wpList_load_cells_want (by rfl) 28 _ rfl g5 (opV y pa pc) 28 _ rfl HCd.out Try.underlying28 rfl HSV.out ?_))
        refine (HS2.out qa qc wd HIXd.out HIAd.out).mono ?_
        rintro e we ⟨rfl, hb⟩
        have HCe := Lib.hid (HCd.out.below hb)
        have HXe := Lib.hid (HXd.out.below hb)
        have HZe := Lib.hid (HZd.out.below hb)
        have HIAe := Lib.hid (HIAd.out.below hb)
        have HIXe := Lib.hid (HIXd.out.below hb)
        have HBe := Lib.hid (HBd.out.trans (hb.mono HBd.out.size))
        have HCRe := Lib.hid (op_cells HYI.out.ok.ref.1 HCe.out).1
        clear hb HCd HXd HZd HIAd HIXd HBd HCRd
        cases bg with
        | false =>
          have heq := HEQ.out
          go_wp2_with (first | (refine wpList_load_cells_want (by rfl) 25 _ rfl gz (draftV y.d) 25 _ rfl HZe.out Try.underlying25 rfl HSX.out ?_) | (refine wpList_load_mid_want (by rfl) 25 _ rfl g5 0 rfl _ _ HCRe.out Try.underlying25 rfl HSD.out ?_))
          exact ⟨⟨k + 1, by omega, by go_num, by rw [HZ.out], fun _ => h10n, by
            rw [HTK.out]
            intro q hq
            rcases List.mem_append.1 hq with hq | hq
            · exact HTHR.out q hq
            · obtain rfl := List.mem_singleton.1 hq
              exact HTH.out, HBe.out⟩, by simp [intOf]; omega⟩
        | true =>
          have heq := HEQ.out
          go_wp2_with (first | (refine wpList_load_cells_want (by rfl) 25 _ rfl gz (draftV y.d) 25 _ rfl HZe.out Try.underlying25 rfl HSX.out ?_) | (refine wpList_load_mid_want (by rfl) 25 _ rfl g5 0 rfl _ _ HCRe.out Try.underlying25 rfl HSD.out ?_) | (refine wpList_load_cells_want (by rfl) 28 _ rfl g5 (opV y pa pc) 28 _ rfl HCe.out Try.underlying28 rfl HSV.out ?_))
          refine (HGO.out we HIAe.out).mono ?_
          rintro e wz ⟨rfl, hb⟩
          have HBz := Lib.hid (HBe.out.trans (hb.mono HBe.out.size))
          clear hb
          go_wp2_with fail
          exact ⟨⟨k + 1, by omega, by go_num, by rw [HZ.out], fun _ => h10n, by
            rw [HTK.out]
            intro q hq
            rcases List.mem_append.1 hq with hq | hq
            · exact HTHR.out q hq
            · obtain rfl := List.mem_singleton.1 hq
              exact HTH.out, HBz.out⟩, by simp [intOf]; omega⟩
      · rw [if_neg hgo] at HRO
        rw [decide_eq_false hgo] at HGO
        have HZ := Shut.mk (show (b8 && (L.take (k + 1)).all fun o => decide (GoodO o)) = false by rw [HTK.out, List.all_append]; simp [hgo])
        clear hgo
        by_cases hgd : GoodD y.d
        · rw [if_pos hgd] at HRD
          rw [decide_eq_true hgd] at HGD
          clear hgd
          go_wp2_with (first | (refine wpList_load_cells rfl 28 _ rfl g5 (opV y pa pc) 28 _ rfl HC5.out Try.underlying28 rfl HSV.out ?_) | (refine wpList_load_cells_want (by rfl) 28 _ rfl g5 (opV y pa pc) 28 _ rfl HC5.out Try.underlying28 rfl HSV.out ?_))
          refine (HTO.out w5 HIA5.out).mono ?_
          rintro e w6 ⟨rfl, hb⟩
          have HC6 := Lib.hid (HC5.out.below hb)
          have HB6 := Lib.hid (HB5.out.trans (hb.mono HB5.out.size))
          have HIA6 := Lib.hid (HIA5.out.below hb)
          clear hb HC5 HB5 HIA5 HTO
          go_wp2_with fail
          refine (HRO.out w6).mono ?_
          rintro e w7 ⟨⟨qa, qc, rfl, hia, _⟩, hb⟩
          have HC7 := Lib.hid (HC6.out.below hb)
          have HB7 := Lib.hid (HB6.out.trans (hb.mono HB6.out.size))
          have HIA7 := Lib.hid (HIA6.out.below hb)
          have HIX7 := Lib.hid (show IAt qa zeroO.preds w7 from hia)
          clear hb hia HC6 HB6 HIA6 HRO
          unfold DrO
          simp only [Option.getD_none, Option.isSome_none]
          go_wp2_with (first
            | (refine wpList_alloc_of rfl 28 rfl (opL zeroO none 0) HZO.out ?_)
            | (refine wpList_store_cells rfl 28 _ _ rfl rfl w7.heap.size (opV zeroO none 0) (opV zeroO qa qc) 28 rfl rfl (heap_alloc_new w7 _) (Try.sizeO) (by rfl) (opV_all zeroO qa qc) ?_))
          intro w8 hc hb
          have hb8 : Below w7.heap.size w7 w8 := But.toBelow ((Below.refl _ w7).alloc (Nat.le_refl _) _) hb.out (Nat.le_refl _) (by rw [World.size_alloc]; exact Nat.le_succ _)
          have HX8 := Lib.hid hc.out
          have HC8 := Lib.hid (HC7.out.below hb8)
          have HB8' := Lib.hid (HB7.out.trans (hb8.mono HB7.out.size))
          have HIA8 := Lib.hid (HIA7.out.below hb8)
          have HIX8 := Lib.hid (HIX7.out.below hb8)
          obtain ⟨gx, hgx⟩ : ∃ g, w7.heap.size = g := ⟨_, rfl⟩
          rw [hgx] at HX8 ⊢
          clear hc hb hb8 hgx HC7 HB7 HIA7 HIX7
          have HCR8 := Lib.hid (op_cells HYI.out.ok.ref.1 HC8.out).1
          go_wp2_with (first | (refine wpList_load_mid rfl 25 _ rfl g5 0 rfl _ _ HCR8.out Try.underlying25 rfl HSD.out ?_))
          refine (HTD.out w8).mono ?_
          rintro e w9 ⟨rfl, hb⟩
          have HC9 := Lib.hid (HC8.out.below hb)
          have HX9 := Lib.hid (HX8.out.below hb)
          have HB9 := Lib.hid (HB8'.out.trans (hb.mono HB8'.out.size))
          have HIA9 := Lib.hid (HIA8.out.below hb)
          have HIX9 := Lib.hid (HIX8.out.below hb)
          clear hb HC8 HB8' HIA8 HIX8 HX8 HTD HCR8
          go_wp2_with fail
          refine (HRD.out w9).mono ?_
          rintro e wa ⟨rfl, hb⟩
          have HCa := Lib.hid (HC9.out.below hb)
          have HXa := Lib.hid (HX9.out.below hb)
          have HBa := Lib.hid (HB9.out.trans (hb.mono HB9.out.size))
          have HIAa := Lib.hid (HIA9.out.below hb)
          have HIXa := Lib.hid (HIX9.out.below hb)
          clear hb HC9 HB9 HIA9 HIX9 HX9 HRD
          unfold DrD
          simp only [Option.getD_some, Option.isSome_some]
          go_wp2_with (first
            | (refine wpList_alloc_of rfl 25 rfl (draftL zeroD) HZD.out ?_)
            | (refine wpList_store_cells rfl 25 _ _ rfl rfl wa.heap.size (draftV zeroD) (draftV y.d) 25 rfl rfl (heap_alloc_new wa _) (HSX.out) (by exact HSW.out) (draftV_all y.d) ?_))
          intro wb hc hb
          have hbb : Below wa.heap.size wa wb := But.toBelow ((Below.refl _ wa).alloc (Nat.le_refl _) _) hb.out (Nat.le_refl _) (by rw [World.size_alloc]; exact Nat.le_succ _)
          have HZb := Lib.hid hc.out
          have HCb := Lib.hid (HCa.out.below hbb)
          have HXb := Lib.hid (HXa.out.below hbb)
          have HBb := Lib.hid (HBa.out.trans (hbb.mono HBa.out.size))
          have HIAb := Lib.hid (HIAa.out.below hbb)
          have HIXb := Lib.hid (HIXa.out.below hbb)
          obtain ⟨gz, hgz⟩ : ∃ g, wa.heap.size = g := ⟨_, rfl⟩
          rw [hgz] at HZb ⊢
          clear hc hb hbb hgz HCa HXa HBa HIAa HIXa
          go_wp2_with (first | (refine wpList_load_cells rfl 28 _ rfl g5 (opV y pa pc) 28 _ rfl HCb.out Try.underlying28 rfl HSV.out ?_) | (refine wpList_load_cells_want (by rfl) 28 _ rfl g5 (opV y pa pc) 28 _ rfl HCb.out Try.underlying28 rfl HSV.out ?_))
          refine (HGO.out wb HIAb.out).mono ?_
          rintro e wc ⟨rfl, hb⟩
          have HCc := Lib.hid (HCb.out.below hb)
          have HXc := Lib.hid (HXb.out.below hb)
          have HZc := Lib.hid (HZb.out.below hb)
          have HIAc := Lib.hid (HIAb.out.below hb)
          have HIXc := Lib.hid (HIXb.out.below hb)
          have HBc := Lib.hid (HBb.out.trans (hb.mono HBb.out.size))
          have HCRc := Lib.hid (op_cells HYI.out.ok.ref.1 HCc.out).1
          clear hb HCb HXb HZb HIAb HIXb HBb
          go_wp2_with (first | (refine wpList_load_mid rfl 25 _ rfl g5 0 rfl _ _ HCRc.out Try.underlying25 rfl HSD.out ?_) | (refine wpList_load_mid_want (by rfl) 25 _ rfl g5 0 rfl _ _ HCRc.out Try.underlying25 rfl HSD.out ?_))
          refine (HGD.out wc).mono ?_
          rintro e wd ⟨rfl, hb⟩
          have HCd := Lib.hid (HCc.out.below hb)
          have HXd := Lib.hid (HXc.out.below hb)
          have HZd := Lib.hid (HZc.out.below hb)
          have HIAd := Lib.hid (HIAc.out.below hb)
          have HIXd := Lib.hid (HIXc.out.below hb)
          have HBd := Lib.hid (HBc.out.trans (hb.mono HBc.out.size))
          have HCRd := Lib.hid (op_cells HYI.out.ok.ref.1 HCd.out).1
          clear hb HCc HXc HZc HIAc HIXc HBc HCRc
          cases bg with
          | false =>
            have heq := HEQ.out
            go_wp2_with (first | (refine wpList_load_cells_want (by rfl) 25 _ rfl gz (draftV y.d) 25 _ rfl HZd.out Try.underlying25 rfl HSX.out ?_) | (refine wpList_load_mid_want (by rfl) 25 _ rfl g5 0 rfl _ _ HCRd.out Try.underlying25 rfl HSD.out ?_))
            exact ⟨⟨k + 1, by omega, by go_num, by rw [HZ.out], fun _ => h10n, by
              rw [HTK.out]
              intro q hq
              rcases List.mem_append.1 hq with hq | hq
              · exact HTHR.out q hq
              · obtain rfl := List.mem_singleton.1 hq
                exact HTH.out, HBd.out⟩, by simp [intOf]; omega⟩
          | true =>
            have heq := HEQ.out
            go_wp2_with (first | (refine wpList_load_cells_want (by rfl) 25 _ rfl gz (draftV y.d) 25 _ rfl HZd.out Try.underlying25 rfl HSX.out ?_) | (refine wpList_load_mid_want (by rfl) 25 _ rfl g5 0 rfl _ _ HCRd.out Try.underlying25 rfl HSD.out ?_) | (refine wpList_load_cells_want (by rfl) 28 _ rfl g5 (opV y pa pc) 28 _ rfl HCd.out Try.underlying28 rfl HSV.out ?_))
            refine (HGO.out wd HIAd.out).mono ?_
            rintro e wz ⟨rfl, hb⟩
            have HBz := Lib.hid (HBd.out.trans (hb.mono HBd.out.size))
            clear hb
            go_wp2_with fail
            exact ⟨⟨k + 1, by omega, by go_num, by rw [HZ.out], fun _ => h10n, by
              rw [HTK.out]
              intro q hq
              rcases List.mem_append.1 hq with hq | hq
              · exact HTHR.out q hq
              · obtain rfl := List.mem_singleton.1 hq
                exact HTH.out, HBz.out⟩, by simp [intOf]; omega⟩
        · rw [if_neg hgd] at HRD
          rw [decide_eq_false hgd] at HGD
          clear hgd
          go_wp2_with (first | (refine wpList_load_cells rfl 28 _ rfl g5 (opV y pa pc) 28 _ rfl HC5.out Try.underlying28 rfl HSV.out ?_) | (refine wpList_load_cells_want (by rfl) 28 _ rfl g5 (opV y pa pc) 28 _ rfl HC5.out Try.underlying28 rfl HSV.out ?_))
          refine (HTO.out w5 HIA5.out).mono ?_
          rintro e w6 ⟨rfl, hb⟩
          have HC6 := Lib.hid (HC5.out.below hb)
          have HB6 := Lib.hid (HB5.out.trans (hb.mono HB5.out.size))
          have HIA6 := Lib.hid (HIA5.out.below hb)
          clear hb HC5 HB5 HIA5 HTO
          go_wp2_with fail
          refine (HRO.out w6).mono ?_
          rintro e w7 ⟨⟨qa, qc, rfl, hia, _⟩, hb⟩
          have HC7 := Lib.hid (HC6.out.below hb)
          have HB7 := Lib.hid (HB6.out.trans (hb.mono HB6.out.size))
          have HIA7 := Lib.hid (HIA6.out.below hb)
          have HIX7 := Lib.hid (show IAt qa zeroO.preds w7 from hia)
          clear hb hia HC6 HB6 HIA6 HRO
          unfold DrO
          simp only [Option.getD_none, Option.isSome_none]
          go_wp2_with (first
            | (refine wpList_alloc_of rfl 28 rfl (opL zeroO none 0) HZO.out ?_)
            | (refine wpList_store_cells rfl 28 _ _ rfl rfl w7.heap.size (opV zeroO none 0) (opV zeroO qa qc) 28 rfl rfl (heap_alloc_new w7 _) (Try.sizeO) (by rfl) (opV_all zeroO qa qc) ?_))
          intro w8 hc hb
          have hb8 : Below w7.heap.size w7 w8 := But.toBelow ((Below.refl _ w7).alloc (Nat.le_refl _) _) hb.out (Nat.le_refl _) (by rw [World.size_alloc]; exact Nat.le_succ _)
          have HX8 := Lib.hid hc.out
          have HC8 := Lib.hid (HC7.out.below hb8)
          have HB8' := Lib.hid (HB7.out.trans (hb8.mono HB7.out.size))
          have HIA8 := Lib.hid (HIA7.out.below hb8)
          have HIX8 := Lib.hid (HIX7.out.below hb8)
          obtain ⟨gx, hgx⟩ : ∃ g, w7.heap.size = g := ⟨_, rfl⟩
          rw [hgx] at HX8 ⊢
          clear hc hb hb8 hgx HC7 HB7 HIA7 HIX7
          have HCR8 := Lib.hid (op_cells HYI.out.ok.ref.1 HC8.out).1
          go_wp2_with (first | (refine wpList_load_mid rfl 25 _ rfl g5 0 rfl _ _ HCR8.out Try.underlying25 rfl HSD.out ?_))
          refine (HTD.out w8).mono ?_
          rintro e w9 ⟨rfl, hb⟩
          have HC9 := Lib.hid (HC8.out.below hb)
          have HX9 := Lib.hid (HX8.out.below hb)
          have HB9 := Lib.hid (HB8'.out.trans (hb.mono HB8'.out.size))
          have HIA9 := Lib.hid (HIA8.out.below hb)
          have HIX9 := Lib.hid (HIX8.out.below hb)
          clear hb HC8 HB8' HIA8 HIX8 HX8 HTD HCR8
          go_wp2_with fail
          refine (HRD.out w9).mono ?_
          rintro e wa ⟨rfl, hb⟩
          have HCa := Lib.hid (HC9.out.below hb)
          have HXa := Lib.hid (HX9.out.below hb)
          have HBa := Lib.hid (HB9.out.trans (hb.mono HB9.out.size))
          have HIAa := Lib.hid (HIA9.out.below hb)
          have HIXa := Lib.hid (HIX9.out.below hb)
          clear hb HC9 HB9 HIA9 HIX9 HX9 HRD
          unfold DrD
          simp only [Option.getD_none, Option.isSome_none]
          go_wp2_with (first
            | (refine wpList_alloc_of rfl 25 rfl (draftL zeroD) HZD.out ?_)
            | (refine wpList_store_cells rfl 25 _ _ rfl rfl wa.heap.size (draftV zeroD) (draftV zeroD) 25 rfl rfl (heap_alloc_new wa _) (Try.sizeD) (by rfl) (draftV_all zeroD) ?_))
          intro wb hc hb
          have hbb : Below wa.heap.size wa wb := But.toBelow ((Below.refl _ wa).alloc (Nat.le_refl _) _) hb.out (Nat.le_refl _) (by rw [World.size_alloc]; exact Nat.le_succ _)
          have HZb := Lib.hid hc.out
          have HCb := Lib.hid (HCa.out.below hbb)
          have HXb := Lib.hid (HXa.out.below hbb)
          have HBb := Lib.hid (HBa.out.trans (hbb.mono HBa.out.size))
          have HIAb := Lib.hid (HIAa.out.below hbb)
          have HIXb := Lib.hid (HIXa.out.below hbb)
          obtain ⟨gz, hgz⟩ : ∃ g, wa.heap.size = g := ⟨_, rfl⟩
          rw [hgz] at HZb ⊢
          clear hc hb hbb hgz HCa HXa HBa HIAa HIXa
          go_wp2_with (first | (refine wpList_load_cells rfl 28 _ rfl g5 (opV y pa pc) 28 _ rfl HCb.out Try.underlying28 rfl HSV.out ?_) | (refine wpList_load_cells_want (by rfl) 28 _ rfl g5 (opV y pa pc) 28 _ rfl HCb.out Try.underlying28 rfl HSV.out ?_))
          refine (HGO.out wb HIAb.out).mono ?_
          rintro e wc ⟨rfl, hb⟩
          have HCc := Lib.hid (HCb.out.below hb)
          have HXc := Lib.hid (HXb.out.below hb)
          have HZc := Lib.hid (HZb.out.below hb)
          have HIAc := Lib.hid (HIAb.out.below hb)
          have HIXc := Lib.hid (HIXb.out.below hb)
          have HBc := Lib.hid (HBb.out.trans (hb.mono HBb.out.size))
          have HCRc := Lib.hid (op_cells HYI.out.ok.ref.1 HCc.out).1
          clear hb HCb HXb HZb HIAb HIXb HBb
          go_wp2_with (first | (refine wpList_load_mid rfl 25 _ rfl g5 0 rfl _ _ HCRc.out Try.underlying25 rfl HSD.out ?_) | (refine wpList_load_mid_want (by rfl) 25 _ rfl g5 0 rfl _ _ HCRc.out Try.underlying25 rfl HSD.out ?_))
          refine (HGD.out wc).mono ?_
          rintro e wd ⟨rfl, hb⟩
          have HCd := Lib.hid (HCc.out.below hb)
          have HXd := Lib.hid (HXc.out.below hb)
          have HZd := Lib.hid (HZc.out.below hb)
          have HIAd := Lib.hid (HIAc.out.below hb)
          have HIXd := Lib.hid (HIXc.out.below hb)
          have HBd := Lib.hid (HBc.out.trans (hb.mono HBc.out.size))
          have HCRd := Lib.hid (op_cells HYI.out.ok.ref.1 HCd.out).1
          clear hb HCc HXc HZc HIAc HIXc HBc HCRc
          cases bg with
          | false =>
            go_wp2_with fail
            exact ⟨⟨k + 1, by omega, by go_num, by rw [HZ.out], fun _ => h10n, by
              rw [HTK.out]
              intro q hq
              rcases List.mem_append.1 hq with hq | hq
              · exact HTHR.out q hq
              · obtain rfl := List.mem_singleton.1 hq
                exact HTH.out, HBd.out⟩, by simp [intOf]; omega⟩
          | true =>
            go_wp2_with (first | (refine wpList_load_cells_want (by rfl) 28 _ rfl g5 (opV y pa pc) 28 _ rfl HCd.out Try.underlying28 rfl HSV.out ?_))
            refine (HGO.out wd HIAd.out).mono ?_
            rintro e wz ⟨rfl, hb⟩
            have HBz := Lib.hid (HBd.out.trans (hb.mono HBd.out.size))
            clear hb
            go_wp2_with fail
            exact ⟨⟨k + 1, by omega, by go_num, by rw [HZ.out], fun _ => h10n, by
              rw [HTK.out]
              intro q hq
              rcases List.mem_append.1 hq with hq | hq
              · exact HTHR.out q hq
              · obtain rfl := List.mem_singleton.1 hq
                exact HTH.out, HBz.out⟩, by simp [intOf]; omega⟩
    · obtain rfl : k = n := by omega
      have hfull : L.take k = L := List.take_of_length_le (by rw [HNN.out]; exact Nat.le_refl _)
      have h10n : k ≤ 10 := by
        by_cases h0 : 0 < k
        · exact h10 h0
        · omega
      have hth : ∀ o ∈ L, Thru o := fun o ho => HTHR.out o (by rw [hfull]; exact ho)
      have HTH := Lib.hid hth
      have HBT := Lib.hid (fun w' h => dev_batch ao L c w' (fun o ho => (hth o ho).fit) (by rw [HNN.out]; exact h10n) h)
      have HLN := Lib.hid (batchB_le (fun o ho => (hth o ho).small) (by rw [HNN.out]; exact h10n))
      have HRB := Lib.hid (fun w' => dev_readBatch (batchB L) w' (by have := HLN.out; omega))
      rw [readL_batchB (fun o ho => ⟨(hth o ho).small, (hth o ho).pos⟩) (by rw [HNN.out]; exact h10n)] at HRB
      have hbe : bg = decide (L.length ≤ 8 ∧ ∀ o ∈ L, GoodO o) := by
        rw [← HBG.out, hfull, ← HB8.out, HNN.out, Bool.eq_iff_iff]
        simp
        omega
      have HS3 := Lib.hid (fun al cl w' h1 h2 => ref_sameAll L L al ao cl c w' (fun o ho => (hth o ho).fit.ok) (fun o ho => (hth o ho).fit.ok) h1 h2 (fun o ho => by have := (hth o ho).fit.many; omega) (fun o ho => by have := (hth o ho).fit.many; omega) (by rw [HNN.out]; omega) (by rw [HNN.out]; omega))
      rw [decide_eq_true (rfl : L = L)] at HS3
      obtain ⟨T, hT⟩ : ∃ T, batchB L = T := ⟨_, rfl⟩
      rw [hT] at HBT HRB
      rw [HNN.out] at HBT HS3
      cases bg with
      | true =>
        have hc := of_decide_eq_true hbe.symm
        rw [if_pos hc] at HRB
        clear hT hbe hc hth hfull h10
        go_wp2_with fail
        refine (HBT.out wr HPW.out).mono ?_
        rintro e w2 ⟨rfl, hb⟩
        have HB2 := Lib.hid (HBW.out.trans (hb.mono HBW.out.size))
        have HP2 := Lib.hid (HPW.out.below hb)
        clear hb HBW HPW HBT
        go_wp2_with fail
        refine (HRB.out w2).mono ?_
        rintro e w3 ⟨⟨v, rfl, ho⟩, hb⟩
        obtain ⟨al, cl, rfl⟩ := ho.form
        have HO3 := Lib.hid (show OpsAt al L w3 from ho.at)
        have HB3 := Lib.hid (HB2.out.trans (hb.mono HB2.out.size))
        have HP3 := Lib.hid (HP2.out.below hb)
        clear hb ho HB2 HP2 HRB
        simp only [Option.getD_some, Option.isSome_some]
        rw [HNN.out]
        go_wp2_with fail
        refine (HS3.out al cl w3 HO3.out HP3.out).mono ?_
        rintro e w4 ⟨rfl, hb⟩
        have HB4 := Lib.hid (HB3.out.trans (hb.mono HB3.out.size))
        clear hb
        go_wp2_with fail
        go_ret
        exact ⟨rfl, HB4.out⟩
      | false =>
        have hc := of_decide_eq_false hbe.symm
        rw [if_neg hc] at HRB
        clear hT hbe hc hth hfull h10
        go_wp2_with fail
        refine (HBT.out wr HPW.out).mono ?_
        rintro e w2 ⟨rfl, hb⟩
        have HB2 := Lib.hid (HBW.out.trans (hb.mono HBW.out.size))
        clear hb HBW HPW HBT
        go_wp2_with fail
        refine (HRB.out w2).mono ?_
        rintro e w3 ⟨⟨v, rfl, ho⟩, hb⟩
        obtain ⟨al, cl, rfl⟩ := ho.form
        have HB3 := Lib.hid (HB2.out.trans (hb.mono HB2.out.size))
        clear hb ho HB2 HRB
        simp only [Option.getD_none, Option.isSome_none]
        go_wp2_with fail
        go_ret
        exact ⟨rfl, HB3.out⟩
end Go.Proofs.Ythgfpojfnhkckaa.opBack
