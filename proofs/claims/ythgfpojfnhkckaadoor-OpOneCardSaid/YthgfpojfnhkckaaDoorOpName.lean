/-
  Name, the developers' and the document's.
-/
import Derived.Test.YthgfpojfnhkckaaDoorOpTxtR
import Derived.Test.YthgfpojfnhkckaaDoorShaSum
import Derived.Test.YthgfpojfnhkckaaDoorSs
namespace Go.Proofs.YthgfpojfnhkckaaDoor
open Go.RowKit Go.BigFrame

def nameN (o : OpN) : List Nat := shaN (listB [[111, 112], opB o])
theorem nameN_ok (o : OpN) : IdOk (nameN o) := ⟨shaN_len _, shaN_lt _⟩
theorem at_one9 (w : World) (r : List UInt8) : StrsAt (some ⟨w.heap.size, 0, none⟩) [r] (w.alloc (.cells #[.string ⟨r.toArray⟩] 9)) := by
  refine strsAt_own (B := w.heap.size) (c := 1) ?_
  exact World.ownsRow_lit (base := w.heap.size) (e := 9) (size := 1) w #[.string ⟨r.toArray⟩] 1 (Nat.le_refl _) (by unfold maxLen; omega) rfl
theorem name_small {o : OpN} (h : o.Fit) : (listB [[111, 112], opB o]).length ≤ 10000 := by
  have h1 := opB_le9 h
  rw [listB_length]
  simp only [List.length_cons, List.length_nil, Nat.zero_add, Nat.reduceAdd, textsB_cons, List.length_append]
  have e2 : (textsB []).length = 0 := rfl
  have a0 := numB_len9 (n := 2) (by decide)
  have a1 := textB_le9 (t := [111, 112]) (by simp)
  have a2 := textB_le9 (t := opB o) (by omega)
  simp only [List.length_cons, List.length_nil, Nat.zero_add, Nat.reduceAdd] at a1
  omega
set_option maxHeartbeats 4000000 in
set_option maxRecDepth 100000 in
theorem dev_name9 (o : OpN) (pa : Option Addr) (pc : Nat) (w : World) (ho : o.Fit) (hp : IAt pa o.preds w) (hk : KAt w) :
    Calls Tryd.prog 11 #[.agg (opV o pa pc)] w fun e w' => e = .returned (.agg (nums .u8 (nameN o)).toArray) ∧ Below w.heap.size w w' := by
  have hb1 : Below w.heap.size w (w.alloc (.cells (opV o pa pc) 30)) := (Below.refl _ _).alloc (Nat.le_refl _) _
  have hx1 : Cells w.heap.size 30 (opV o pa pc) (w.alloc (.cells (opV o pa pc) 30)) := heap_alloc_new w _
  have hs1 : (w.alloc (.cells (opV o pa pc) 30)).heap.size = w.heap.size + 1 := World.size_alloc _ _
  have hb2 : Below (w.alloc (.cells (opV o pa pc) 30)).heap.size (w.alloc (.cells (opV o pa pc) 30)) ((w.alloc (.cells (opV o pa pc) 30)).alloc (.cells (nums .u8 zeroI).toArray 25)) := (Below.refl _ _).alloc (Nat.le_refl _) _
  have hx2 : Blk (w.alloc (.cells (opV o pa pc) 30)).heap.size 25 .u8 zeroI ((w.alloc (.cells (opV o pa pc) 30)).alloc (.cells (nums .u8 zeroI).toArray 25)) := heap_alloc_new _ _
  rw [hs1] at hx2
  have hbb := hb1.trans (hb2.mono hb1.size)
  have HX := Lib.hid (hx1.below hb2)
  have HY := Lib.hid hx2
  have HB := Lib.hid hbb
  have HP := Lib.hid (hp.below hbb)
  have HK := Lib.hid (hk.below hbb)
  have HF := Lib.hid ho
  have HSV := Lib.hid (show (Tryd.prog.info? 30).map (·.size) = some (opV o pa pc).size by rw [opV_size ho.ok.ref.1]; exact Tryd.sizeO)
  clear hb1 hx1 hs1 hb2 hx2 hbb hp hk ho
  go_enter Tryd.func11, Tryd.ntmps11
  go_upto_region 1 with (fail)
  change Code.wp _ _ _ _ ((w.alloc (.cells (opV o pa pc) 30)).alloc (.cells (nums .u8 zeroI).toArray 25))
  obtain ⟨w1, hw1⟩ : ∃ x, x = (w.alloc (.cells (opV o pa pc) 30)).alloc (.cells (nums .u8 zeroI).toArray 25) := ⟨_, rfl⟩
  rw [← hw1] at HX HY HB HP HK ⊢
  clear hw1
  go_wp2_with (refine wpList_load_cells rfl 30 _ rfl w.heap.size (opV o pa pc) 30 _ rfl HX.out Tryd.underlying30 rfl HSV.out ?_)
  refine (dev_text9 o pa pc w1 HF.out HP.out).mono ?_
  rintro e w2 ⟨rfl, hb⟩
  have HY2 := Lib.hid (HY.out.below hb)
  have HB2 := Lib.hid (HB.out.trans (hb.mono HB.out.size))
  have HK2 := Lib.hid (HK.out.below hb)
  clear hb HX HY HB HP HK
  have HSM := Lib.hid (dev_sum [111, 112] (some ⟨w2.heap.size, 0, none⟩) 1 [opB o] _ (at_one9 w2 (opB o)) (fun h => by cases h) (by simp) (by have := name_small HF.out; omega) (HK2.out.below ((Below.refl _ _).alloc (Nat.le_refl _) _)))
  rw [show shaN (listB [[111, 112], opB o]) = nameN o from rfl] at HSM
  have HNL := Lib.hid (nameN_ok o).1
  obtain ⟨N, hN⟩ : ∃ N, nameN o = N := ⟨_, rfl⟩
  have HNE := Shut.mk hN
  rw [hN] at HSM HNL
  clear hN
  go_wp2_with fail
  refine HSM.out.mono ?_
  rintro e w3 ⟨rfl, hb3⟩
  have hb : Below w2.heap.size w2 w3 := ((Below.refl _ w2).alloc (Nat.le_refl _) _).trans (hb3.mono (by simp))
  have HY3 := Lib.hid (HY2.out.below hb)
  have HB3 := Lib.hid (HB2.out.trans (hb.mono HB2.out.size))
  have HI := Lib.hid (show (Tryd.prog.info? 25).map (·.size) = some N.length by rw [HNL.out]; exact Tryd.sizeI)
  have HL2 := Lib.hid (show zeroI.length = N.length by rw [HNL.out]; rfl)
  clear hb hb3 HY2 HB2 HK2 HSM
  go_wp2_with (refine wpList_store_nums rfl 25 _ _ rfl rfl (w.heap.size + 1) .u8 zeroI N 25 rfl rfl HY3.out HI.out HL2.out ?_)
  intro w4 hc hb
  have HC4 := Lib.hid (show Blk (w.heap.size + 1) 25 .u8 N w4 from hc.out)
  have HB4 := Lib.hid (show Below w.heap.size w w4 from But.toBelow HB3.out hb.out (by omega) HB3.out.size)
  clear hc hb HY3 HB3
  go_wp2_with fail
  exact bodyPost_ret (results_nums rfl _ _ (w.heap.size + 1) .u8 _ 25 _ rfl HC4.out Tryd.underlying25 rfl HI.out) rfl ⟨by rw [HNE.out], HB4.out⟩
set_option maxHeartbeats 4000000 in
set_option maxRecDepth 100000 in
theorem ref_name9 (o : OpN) (pa : Option Addr) (pc : Nat) (w : World) (ho : o.Fit) (hp : IAt pa o.preds w) :
    Calls Tryd.prog 12 #[.agg (opV o pa pc)] w fun e w' => e = .returned (.agg (nums .u8 (nameN o)).toArray) ∧ Below w.heap.size w w' := by
  have hb1 : Below w.heap.size w (w.alloc (.cells (opV o pa pc) 30)) := (Below.refl _ _).alloc (Nat.le_refl _) _
  have hx1 : Cells w.heap.size 30 (opV o pa pc) (w.alloc (.cells (opV o pa pc) 30)) := heap_alloc_new w _
  have hs1 : (w.alloc (.cells (opV o pa pc) 30)).heap.size = w.heap.size + 1 := World.size_alloc _ _
  have hb2 : Below (w.alloc (.cells (opV o pa pc) 30)).heap.size (w.alloc (.cells (opV o pa pc) 30)) ((w.alloc (.cells (opV o pa pc) 30)).alloc (.cells (nums .u8 zeroI).toArray 25)) := (Below.refl _ _).alloc (Nat.le_refl _) _
  have hx2 : Blk (w.alloc (.cells (opV o pa pc) 30)).heap.size 25 .u8 zeroI ((w.alloc (.cells (opV o pa pc) 30)).alloc (.cells (nums .u8 zeroI).toArray 25)) := heap_alloc_new _ _
  rw [hs1] at hx2
  have hbb := hb1.trans (hb2.mono hb1.size)
  have HX := Lib.hid (hx1.below hb2)
  have HY := Lib.hid hx2
  have HB := Lib.hid hbb
  have HP := Lib.hid (hp.below hbb)
  have HF := Lib.hid ho
  have HSV := Lib.hid (show (Tryd.prog.info? 30).map (·.size) = some (opV o pa pc).size by rw [opV_size ho.ok.ref.1]; exact Tryd.sizeO)
  clear hb1 hx1 hs1 hb2 hx2 hbb hp ho
  go_enter Tryd.func12, Tryd.ntmps12
  go_upto_region 1 with (fail)
  change Code.wp _ _ _ _ ((w.alloc (.cells (opV o pa pc) 30)).alloc (.cells (nums .u8 zeroI).toArray 25))
  obtain ⟨w1, hw1⟩ : ∃ x, x = (w.alloc (.cells (opV o pa pc) 30)).alloc (.cells (nums .u8 zeroI).toArray 25) := ⟨_, rfl⟩
  rw [← hw1] at HX HY HB HP ⊢
  clear hw1
  go_wp2_with (refine wpList_load_cells rfl 30 _ rfl w.heap.size (opV o pa pc) 30 _ rfl HX.out Tryd.underlying30 rfl HSV.out ?_)
  refine (ref_text9 o pa pc w1 HF.out HP.out).mono ?_
  rintro e w2 ⟨rfl, hb⟩
  have HY2 := Lib.hid (HY.out.below hb)
  have HB2 := Lib.hid (HB.out.trans (hb.mono HB.out.size))
  clear hb HX HY HB HP
  have HSM := Lib.hid (ref_sum [111, 112] (some ⟨w2.heap.size, 0, none⟩) 1 [opB o] _ (at_one9 w2 (opB o)) (fun h => by cases h) (by simp) (by have := name_small HF.out; omega))
  rw [show shaN (listB [[111, 112], opB o]) = nameN o from rfl] at HSM
  have HNL := Lib.hid (nameN_ok o).1
  obtain ⟨N, hN⟩ : ∃ N, nameN o = N := ⟨_, rfl⟩
  have HNE := Shut.mk hN
  rw [hN] at HSM HNL
  clear hN
  go_wp2_with fail
  refine HSM.out.mono ?_
  rintro e w3 ⟨rfl, hb3⟩
  have hb : Below w2.heap.size w2 w3 := ((Below.refl _ w2).alloc (Nat.le_refl _) _).trans (hb3.mono (by simp))
  have HY3 := Lib.hid (HY2.out.below hb)
  have HB3 := Lib.hid (HB2.out.trans (hb.mono HB2.out.size))
  have HI := Lib.hid (show (Tryd.prog.info? 25).map (·.size) = some N.length by rw [HNL.out]; exact Tryd.sizeI)
  have HL2 := Lib.hid (show zeroI.length = N.length by rw [HNL.out]; rfl)
  clear hb hb3 HY2 HB2 HSM
  go_wp2_with (refine wpList_store_nums rfl 25 _ _ rfl rfl (w.heap.size + 1) .u8 zeroI N 25 rfl rfl HY3.out HI.out HL2.out ?_)
  intro w4 hc hb
  have HC4 := Lib.hid (show Blk (w.heap.size + 1) 25 .u8 N w4 from hc.out)
  have HB4 := Lib.hid (show Below w.heap.size w w4 from But.toBelow HB3.out hb.out (by omega) HB3.out.size)
  clear hc hb HY3 HB3
  go_wp2_with fail
  exact bodyPost_ret (results_nums rfl _ _ (w.heap.size + 1) .u8 _ 25 _ rfl HC4.out Tryd.underlying25 rfl HI.out) rfl ⟨by rw [HNE.out], HB4.out⟩
end Go.Proofs.YthgfpojfnhkckaaDoor
