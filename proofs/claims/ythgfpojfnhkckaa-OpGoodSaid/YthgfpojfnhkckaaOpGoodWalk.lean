/-
  The walk of OpGood.
-/
import Derived.Test.YthgfpojfnhkckaaAlive9
import Derived.Test.YthgfpojfnhkckaaGreat9
import Derived.Test.YthgfpojfnhkckaaOpArgs
import Derived.Test.YthgfpojfnhkckaaOpGoodR
namespace Go.Proofs.Ythgfpojfnhkckaa.opGood
open Go.RowKit Go.BigFrame Go.Proofs.Ythgfpojfnhkckaa

set_option maxHeartbeats 4000000 in
set_option maxRecDepth 100000 in
theorem walk (w : World) (o : OpN) (po : Option Addr) (pc : Nat) (ho : o.In) (hpo : IAt po o.preds w) (a : List Nat) (ha : IdOk a) (b : List Nat) (hb : IdOk b) :
    Calls Try.prog 3 #[.agg (opV o po pc), .agg (nums .u8 a).toArray, .agg (nums .u8 b).toArray] w fun e w' => e = .returned (.bool true) ∧ Below w.heap.size w w' := by
  have HO := Lib.hid ho
  have HPO := Lib.hid hpo
  have HA := Lib.hid ha
  have HB := Lib.hid hb
  clear ho hpo ha hb
  go_enter Try.func3, Try.ntmps3
  go_upto_region 1 with (fail)
  obtain ⟨wa, hwa⟩ : ∃ x, x = w.alloc (.cells (opV o po pc) 28) := ⟨_, rfl⟩
  have ka : Below w.heap.size w wa := by rw [hwa]; exact (Below.refl _ _).alloc (Nat.le_refl _) _
  have xa : Cells w.heap.size 28 (opV o po pc) wa := by rw [hwa]; exact heap_alloc_new w _
  have sa : wa.heap.size = w.heap.size + 1 := by rw [hwa]; exact World.size_alloc _ _
  rw [← hwa]
  obtain ⟨wb, hwb⟩ : ∃ x, x = wa.alloc (.cells (nums .u8 a).toArray 22) := ⟨_, rfl⟩
  have kb : Below wa.heap.size wa wb := by rw [hwb]; exact (Below.refl _ _).alloc (Nat.le_refl _) _
  have xb : Blk wa.heap.size 22 .u8 a wb := by rw [hwb]; exact heap_alloc_new wa _
  have sb : wb.heap.size = w.heap.size + 2 := by rw [hwb, World.size_alloc, sa]
  rw [← hwb]
  obtain ⟨wc, hwc⟩ : ∃ x, x = wb.alloc (.cells (nums .u8 b).toArray 22) := ⟨_, rfl⟩
  have kc : Below wb.heap.size wb wc := by rw [hwc]; exact (Below.refl _ _).alloc (Nat.le_refl _) _
  have xc : Blk wb.heap.size 22 .u8 b wc := by rw [hwc]; exact heap_alloc_new wb _
  rw [← hwc]
  rw [sa] at xb
  rw [sb] at xc
  have kk : Below w.heap.size w wc := ka.trans ((kb.mono ka.size).trans (kc.mono (Nat.le_trans ka.size kb.size)))
  have HX := Lib.hid ((xa.below kb).below kc)
  have HY := Lib.hid (xb.below kc)
  have HZ := Lib.hid xc
  have HK := Lib.hid kk
  clear ka xa sa kb xb sb kc xc kk hwa hwb hwc
  go_wp2_with fail
  refine (alive9_any wc).mono ?_
  rintro e w2 ⟨rfl, hb⟩
  have HX2 := Lib.hid (HX.out.below hb)
  have HY2 := Lib.hid (HY.out.below hb)
  have HZ2 := Lib.hid (HZ.out.below hb)
  have HK2 := Lib.hid (HK.out.trans (hb.mono HK.out.size))
  clear hb HX HY HZ HK
  have HSO := Lib.hid (show (Try.prog.info? 28).map (·.size) = some (opV o po pc).size by rw [opV_size HO.out.d.ref.1]; exact Try.sizeO)
  have HG := Lib.hid (fun w' => great9_any o po pc w' HO.out.d.ref.1 (by have := HO.out.many; omega) HO.out.d.key HO.out.d.val)
  obtain ⟨g, hg⟩ : ∃ g, great9N o = g := ⟨_, rfl⟩
  rw [hg] at HG
  clear hg
  cases g with
  | true =>
    go_wp2_with (refine wpList_load_cells rfl 28 _ rfl w.heap.size (opV o po pc) 28 _ rfl HX2.out Try.underlying28 rfl HSO.out ?_)
    refine (HG.out w2).mono ?_
    rintro e w3 ⟨rfl, hb⟩
    have HK3 := Lib.hid (HK2.out.trans (hb.mono HK2.out.size))
    clear hb
    go_wp2_with fail
    go_ret
    exact ⟨rfl, HK3.out⟩
  | false =>
    go_wp2_with (refine wpList_load_cells rfl 28 _ rfl w.heap.size (opV o po pc) 28 _ rfl HX2.out Try.underlying28 rfl HSO.out ?_)
    refine (HG.out w2).mono ?_
    rintro e w3 ⟨rfl, hb⟩
    have HX3 := Lib.hid (HX2.out.below hb)
    have HY3 := Lib.hid (HY2.out.below hb)
    have HZ3 := Lib.hid (HZ2.out.below hb)
    have HK3 := Lib.hid (HK2.out.trans (hb.mono HK2.out.size))
    have HPO3 := Lib.hid (HPO.out.below HK3.out)
    clear hb HX2 HY2 HZ2 HK2 HG
    have HD1 := Lib.hid (fun w' => dev_goodDraft o.d HO.out.d.ref HO.out.d.key HO.out.d.val w')
    have HD2 := Lib.hid (fun w' => ref_goodDraft o.d HO.out.d.ref HO.out.d.key HO.out.d.val w')
    have HE1 := Lib.hid (fun (w' : World) (q : Below w3.heap.size w3 w') => dev_goodOp o po pc w' HO.out.ok (HPO3.out.below q) HO.out.d.key HO.out.d.val (by have := HO.out.many; omega))
    have HE2 := Lib.hid (fun (w' : World) (q : Below w3.heap.size w3 w') => ref_good o po pc w' HO.out.ok (HPO3.out.below q) HO.out.d.key HO.out.d.val (by have := HO.out.many; omega))
    have HF1 := Lib.hid (fun w' => dev_compare a b HA.out HB.out w')
    have HF2 := Lib.hid (fun w' => ref_compare a b HA.out HB.out w')
    obtain ⟨z, hz⟩ : ∃ z, decide (GoodD o.d) = z := ⟨_, rfl⟩
    obtain ⟨y, hy⟩ : ∃ z, decide (GoodO o) = z := ⟨_, rfl⟩
    obtain ⟨r, hr⟩ : ∃ r, cmpN a b = r := ⟨_, rfl⟩
    rw [hz] at HD1 HD2
    rw [hy] at HE1 HE2
    rw [hr] at HF1 HF2
    have HC0 := Lib.hid (fun (w' : World) (q : Below w3.heap.size w3 w') => show w'.rangeAt w.heap.size 0 (draftL o.d) from rangeAt_belowI (op_cells HO.out.d.ref.1 HX3.out).1 q HX3.out.lt)
    have HC1 := Lib.hid (fun (w' : World) (q : Below w3.heap.size w3 w') => HX3.out.below q)
    have HC2 := Lib.hid (fun (w' : World) (q : Below w3.heap.size w3 w') => HY3.out.below q)
    have HC3 := Lib.hid (fun (w' : World) (q : Below w3.heap.size w3 w') => HZ3.out.below q)
    have HSD := Lib.hid (show (Try.prog.info? 25).map (·.size) = some (draftL o.d).length by rw [draftL_len HO.out.d.ref.1]; exact Try.sizeD)
    have HSA := Lib.hid (show (Try.prog.info? 22).map (·.size) = some a.length by rw [HA.out.1]; kernel_rfl)
    have HSB := Lib.hid (show (Try.prog.info? 22).map (·.size) = some b.length by rw [HB.out.1]; kernel_rfl)
    clear hz hy hr HX3 HY3 HZ3 HPO3 HPO HO HA HB
    cases z <;> cases y
    all_goals
      go_upto_region 5 with (fail)
      refine wp_region_class (fun w' => Below w3.heap.size w3 w') (by kernel_rfl) (by kernel_rfl) (Below.refl _ _).drew ?_
      repeat (first
        | go_big_quiet_skip
        | (go_big_quiet_want; refine quiet_load_row 25 _ rfl w.heap.size 0 (draftL o.d) _ rfl HC0.out Try.underlying25 rfl HSD.out ?_; go_big_quiet_on; simp only [Act.put, List.setIfInBounds_toArray, List.set_cons_zero, List.set_cons_succ])
        | (go_big_quiet_want; refine quiet_load_cells 28 _ rfl w.heap.size (opV o po pc) 28 _ rfl HC1.out Try.underlying28 rfl HSO.out ?_; go_big_quiet_on; simp only [Act.put, List.setIfInBounds_toArray, List.set_cons_zero, List.set_cons_succ])
        | (go_big_quiet_want; refine quiet_load_nums 22 _ rfl (w.heap.size + 1) .u8 a 22 _ rfl HC2.out Try.underlying22 rfl HSA.out ?_; go_big_quiet_on; simp only [Act.put, List.setIfInBounds_toArray, List.set_cons_zero, List.set_cons_succ])
        | (go_big_quiet_want; refine quiet_load_nums 22 _ rfl (w.heap.size + 2) .u8 b 22 _ rfl HC3.out Try.underlying22 rfl HSB.out ?_; go_big_quiet_on; simp only [Act.put, List.setIfInBounds_toArray, List.set_cons_zero, List.set_cons_succ])
        | go_big_quiet_step ((intro hs'; first
            | rfl
            | (go_at_call 9; exact (HD1.out _).mono fun e w' h => ⟨h.1, hs'.trans (h.2.mono hs'.size)⟩)
            | (go_at_call 10; exact (HD2.out _).mono fun e w' h => ⟨h.1, hs'.trans (h.2.mono hs'.size)⟩)
            | (go_at_call 11; exact (HE1.out _ hs').mono fun e w' h => ⟨h.1, hs'.trans (h.2.mono hs'.size)⟩)
            | (go_at_call 12; exact (HE2.out _ hs').mono fun e w' h => ⟨h.1, hs'.trans (h.2.mono hs'.size)⟩)
            | (go_at_call 13; exact (HF1.out _).mono fun e w' h => ⟨h.1, hs'.trans (h.2.mono hs'.size)⟩)
            | (go_at_call 14; exact (HF2.out _).mono fun e w' h => ⟨h.1, hs'.trans (h.2.mono hs'.size)⟩))))
    all_goals
      refine wpQuiet_nil ?_
      intro w4 hb4
      go_wp2_with fail
      go_ret
      exact ⟨by simp, HK3.out.trans (hb4.mono HK3.out.size)⟩
end Go.Proofs.Ythgfpojfnhkckaa.opGood
