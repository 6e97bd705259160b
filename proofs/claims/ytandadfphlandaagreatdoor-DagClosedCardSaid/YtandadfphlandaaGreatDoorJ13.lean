/-
  Joined: Sum and Cut, the developers' and the document's.; The worlds of a statement that calls what makes memory: the round constants' table lies there.; Name, the developers' and the document's.; The document's GoodDraft.; The document's Good.; A text copied over cells of one's own, wherever they lie; a block of cells laid over; facts of regions whose order is open: Ord (one comes behind another), NewC.turn.
-/
import Derived.Deep.Cut
import Derived.Laws.AppendOwnNone
import Derived.Laws.IdiomCopy
import Derived.StillTailTactics
import Derived.Test.YtandadfphlandaaGreatDoorJ02
import Derived.Test.YtandadfphlandaaGreatDoorJ04
import Derived.Test.YtandadfphlandaaGreatDoorJ05
import Derived.Test.YtandadfphlandaaGreatDoorJ06
import Derived.Test.YtandadfphlandaaGreatDoorJ08
import Derived.Test.YtandadfphlandaaGreatDoorJ09
import Derived.Test.YtandadfphlandaaGreatDoorJ10
import Derived.Test.YtandadfphlandaaGreatDoorJ12
namespace Go.Proofs.YtandadfphlandaaGreatDoor
open Go.RowKit
theorem strs_one (l : List (List UInt8)) : ∀ u ∈ strs l, u.oneCell' = true := by
  intro u hu
  simp only [strs, List.mem_map] at hu
  obtain ⟨n, _, rfl⟩ := hu
  rfl
theorem ownS_one (w : World) (p : List UInt8) : OwnS w.heap.size (.slice (some ⟨w.heap.size, 0, none⟩) 1 1) [p] (w.alloc (.cells #[.string ⟨p.toArray⟩] 9)) := by
  have h := World.ownsRow_lit (base := w.heap.size) (e := 9) (size := 1) w #[.string ⟨p.toArray⟩] 1 (Nat.le_refl _) (by unfold maxLen; omega) rfl
  exact h
theorem wpList_append_texts {w : World} {ops : Array Oper} {rest : List Oper} {o : Oper} {a : Act} {Q : Exit → Act → World → Prop} (hgd : o.guard = none) (s x : Operand)
    (ho : o.op = .call { callee := .builtin .append, args := #[s, x], argTypes := #[81, 81] })
    (B : Nat) (v : Value) (l m : List (List UInt8)) (ao : Option Addr) (c : Nat) (hs : a.eval s = v) (hown : OwnS B v l w) (hx : a.eval x = .slice ao m.length c) (hsrc : StrsAt ao m w) (hnil : ao = none → c = 0)
    (hlen : l.length + m.length ≤ 8796093022208) (hB : B ≤ w.heap.size)
    (h : ∀ v' w', Hid (OwnS B v' (l ++ m) w') → Hid (Below B w w') → wpList Tryz.prog ops Q rest (a.put o.dst v') w') : wpList Tryz.prog ops Q (o :: rest) a w := by
  obtain ⟨i, hi, hz0, hz1, hz2⟩ := info_parts Tryz.infoString
  cases ao with
  | none =>
    obtain rfl := hnil rfl
    have hm : m = [] := by
      rcases hsrc with h | ⟨b, o', h, _⟩
      · exact h
      · cases h
    subst hm
    refine wpList_append_own_none hgd s x _ ho B 9 i 1 Tryz.underlying81 hi v l.length (strs l) hs hown hx (h _ _ ?_ (Below.refl _ _))
    rw [List.append_nil]
    exact hown
  | some ad =>
    refine wpList_append_own_at w hgd s x _ ho B 9 i (.string ⟨#[]⟩) 1 16 Tryz.underlying81 hi hz0 hz1 hz2 rfl (by decide) v l.length (strs l) hs hown ad m.length c (strs m) hx (by rw [strs_length, Nat.mul_one]) ?_ (strs_one m)
      (by unfold maxLen; omega) (by omega) hB ?_
    · intro j u hj
      rcases hsrc with h0 | ⟨b, o', h0, _, hc⟩
      · subst h0; simp [strs] at hj
      · obtain rfl := Option.some.inj h0
        have hj' : j < m.length := by
          have := (List.getElem?_eq_some_iff.1 hj).1
          rwa [strs_length] at this
        have e : (⟨b, o', none⟩ : Addr).add j = ⟨b, o' + j, none⟩ := by simp only [Addr.add]; split <;> simp_all
        rw [e, hc j hj', ← hj, strs, List.getElem?_map, List.getElem?_eq_getElem hj']
        rfl
    · intro v' w' h2 hg _ _
      refine h v' w' ?_ ((Below.refl B w).grown hg hB (fun k hk => (World.ownsRow.lt hown k hk).1))
      show w'.ownsRow B 9 1 v' (l ++ m).length (strs (l ++ m))
      rw [List.length_append, show strs (l ++ m) = strs l ++ strs m by simp [strs]]
      exact h2
set_option maxHeartbeats 4000000 in
set_option maxRecDepth 100000 in
theorem dev_sum (p : List UInt8) (ao : Option Addr) (c : Nat) (l : List (List UInt8)) (w : World) (hs : StrsAt ao l w) (hnil : ao = none → c = 0) (hl : l.length ≤ 8796093000000) (hb : (listB (p :: l)).length ≤ 140737488350000) (hk : KAt w) :
    Calls Tryz.prog 50 #[.string ⟨p.toArray⟩, .slice ao l.length c] w fun e w' => e = .returned (.agg (nums .u8 (shaN (listB (p :: l)))).toArray) ∧ Below w.heap.size w w' := by
  have HS := Lib.hid hs
  have HK := Lib.hid hk
  have HN := Lib.hid hnil
  have HLB := Lib.hid hb
  clear hs hk hnil hb
  go_enter Tryz.func50, Tryz.ntmps50
  go_upto_region 1 with (fail)
  change Code.wp _ _ _ _ (w.alloc (.cells (nums .u8 (List.replicate 32 0)).toArray 25))
  obtain ⟨wa, hwa⟩ : ∃ x, x = w.alloc (.cells (nums .u8 (List.replicate 32 0)).toArray 25) := ⟨_, rfl⟩
  rw [← hwa]
  have hb : Below w.heap.size w wa := by rw [hwa]; exact (Below.refl _ _).alloc (Nat.le_refl _) _
  have HR := Lib.hid (show Blk w.heap.size 25 .u8 (List.replicate 32 0) wa by rw [hwa]; exact heap_alloc_new w _)
  have HKa := Lib.hid (HK.out.below hb)
  have HSa := Lib.hid (HS.out.below hb)
  have HB := Lib.hid hb
  clear hwa hb HK HS
  have hsza := HB.out.size
  go_wp2_with (at_builtin; refine wpList_append_texts rfl _ _ rfl wa.heap.size _ [p] l ao c rfl (ownS_one wa p) rfl (HSa.out.below ((Below.refl _ _).alloc (Nat.le_refl _) _)) HN.out (by simp; omega) (by simp) ?_)
  intro v w1 hown hb1
  have hb1' : Below wa.heap.size wa w1 := ((Below.refl wa.heap.size wa).alloc (Nat.le_refl _) _).trans hb1.out
  obtain ⟨a1, c1, rfl⟩ := hown.out.form
  have HO := Lib.hid (show OwnS wa.heap.size (.slice a1 (p :: l).length c1) (p :: l) w1 from hown.out)
  have HR1 := Lib.hid (HR.out.below hb1')
  have HK1 := Lib.hid (HKa.out.below hb1')
  have HB1 := Lib.hid (HB.out.trans (hb1'.mono hsza))
  clear hown hb1 hb1' HR HKa HSa
  go_wp2_with fail
  refine (list_any a1 c1 (p :: l) w1 (strsAt_own HO.out) (by simp; omega) (by have := HLB.out; omega)).mono ?_
  rintro e w2 ⟨rfl, hb2⟩
  have HR2 := Lib.hid (HR1.out.below hb2)
  have HK2 := Lib.hid (HK1.out.below hb2)
  have HB2 := Lib.hid (HB1.out.trans (hb2.mono HB1.out.size))
  clear hb2 HR1 HK1 HB1 HO
  go_wp2_with fail
  refine (dev_of (listB (p :: l)) w2 HLB.out HK2.out).mono ?_
  rintro e w3 ⟨rfl, hb3⟩
  have HR3 := Lib.hid (HR2.out.below hb3)
  have HB3 := Lib.hid (HB2.out.trans (hb3.mono HB2.out.size))
  have HI := Lib.hid (show (Tryz.prog.info? 25).map (·.size) = some (shaN (listB (p :: l))).length by rw [shaN_len]; exact Tryz.infoId)
  have HL := Lib.hid (show (List.replicate 32 0).length = (shaN (listB (p :: l))).length by rw [shaN_len, List.length_replicate])
  clear hb3 HR2 HK2 HB2
  go_wp2_with (refine wpList_store_nums rfl 25 _ _ rfl rfl w.heap.size .u8 _ (shaN (listB (p :: l))) 25 rfl rfl HR3.out HI.out HL.out ?_)
  intro w7 hc hb
  have HC7 := Lib.hid (show Blk w.heap.size 25 .u8 (shaN (listB (p :: l))) w7 from hc.out)
  have HB7 := Lib.hid (show Below w.heap.size w w7 from But.toBelow HB3.out hb.out (Nat.le_refl _) HB3.out.size)
  clear hc hb
  go_wp2_with fail
  exact bodyPost_ret (results_nums rfl _ _ w.heap.size .u8 _ 25 _ rfl HC7.out Tryz.underlying25 rfl HI.out) rfl ⟨rfl, HB7.out⟩
set_option maxHeartbeats 4000000 in
set_option maxRecDepth 100000 in
theorem ref_sum (p : List UInt8) (ao : Option Addr) (c : Nat) (l : List (List UInt8)) (w : World) (hs : StrsAt ao l w) (hnil : ao = none → c = 0) (hl : l.length ≤ 8796093000000) (hb : (listB (p :: l)).length ≤ 140737488350000) :
    Calls Tryz.prog 46 #[.string ⟨p.toArray⟩, .slice ao l.length c] w fun e w' => e = .returned (.agg (nums .u8 (shaN (listB (p :: l)))).toArray) ∧ Below w.heap.size w w' := by
  have HS := Lib.hid hs
  have HN := Lib.hid hnil
  have HLB := Lib.hid hb
  clear hs hnil hb
  go_enter Tryz.func46, Tryz.ntmps46
  go_upto_region 1 with (fail)
  change Code.wp _ _ _ _ (w.alloc (.cells (nums .u8 (List.replicate 32 0)).toArray 25))
  obtain ⟨wa, hwa⟩ : ∃ x, x = w.alloc (.cells (nums .u8 (List.replicate 32 0)).toArray 25) := ⟨_, rfl⟩
  rw [← hwa]
  have hb : Below w.heap.size w wa := by rw [hwa]; exact (Below.refl _ _).alloc (Nat.le_refl _) _
  have HR := Lib.hid (show Blk w.heap.size 25 .u8 (List.replicate 32 0) wa by rw [hwa]; exact heap_alloc_new w _)
  have HSa := Lib.hid (HS.out.below hb)
  have HB := Lib.hid hb
  clear hwa hb HS
  have hsza := HB.out.size
  go_wp2_with (at_builtin; refine wpList_append_texts rfl _ _ rfl wa.heap.size _ [p] l ao c rfl (ownS_one wa p) rfl (HSa.out.below ((Below.refl _ _).alloc (Nat.le_refl _) _)) HN.out (by simp; omega) (by simp) ?_)
  intro v w1 hown hb1
  have hb1' : Below wa.heap.size wa w1 := ((Below.refl wa.heap.size wa).alloc (Nat.le_refl _) _).trans hb1.out
  obtain ⟨a1, c1, rfl⟩ := hown.out.form
  have HO := Lib.hid (show OwnS wa.heap.size (.slice a1 (p :: l).length c1) (p :: l) w1 from hown.out)
  have HR1 := Lib.hid (HR.out.below hb1')
  have HB1 := Lib.hid (HB.out.trans (hb1'.mono hsza))
  clear hown hb1 hb1' HR HSa
  go_wp2_with fail
  refine (rlistref_any a1 c1 (p :: l) w1 (strsAt_own HO.out) (by simp; omega) (by have := HLB.out; omega)).mono ?_
  rintro e w2 ⟨rfl, hb2⟩
  have HR2 := Lib.hid (HR1.out.below hb2)
  have HB2 := Lib.hid (HB1.out.trans (hb2.mono HB1.out.size))
  clear hb2 HR1 HB1 HO
  go_wp2_with fail
  refine (of_any (listB (p :: l)) w2 HLB.out).mono ?_
  rintro e w3 ⟨rfl, hb3⟩
  have HR3 := Lib.hid (HR2.out.below hb3)
  have HB3 := Lib.hid (HB2.out.trans (hb3.mono HB2.out.size))
  have HI := Lib.hid (show (Tryz.prog.info? 25).map (·.size) = some (shaN (listB (p :: l))).length by rw [shaN_len]; exact Tryz.infoId)
  have HL := Lib.hid (show (List.replicate 32 0).length = (shaN (listB (p :: l))).length by rw [shaN_len, List.length_replicate])
  clear hb3 HR2 HB2
  go_wp2_with (refine wpList_store_nums rfl 25 _ _ rfl rfl w.heap.size .u8 _ (shaN (listB (p :: l))) 25 rfl rfl HR3.out HI.out HL.out ?_)
  intro w7 hc hb
  have HC7 := Lib.hid (show Blk w.heap.size 25 .u8 (shaN (listB (p :: l))) w7 from hc.out)
  have HB7 := Lib.hid (show Below w.heap.size w w7 from But.toBelow HB3.out hb.out (Nat.le_refl _) HB3.out.size)
  clear hc hb
  go_wp2_with fail
  exact bodyPost_ret (results_nums rfl _ _ w.heap.size .u8 _ 25 _ rfl HC7.out Tryz.underlying25 rfl HI.out) rfl ⟨rfl, HB7.out⟩
end Go.Proofs.YtandadfphlandaaGreatDoor
namespace Go.Proofs.YtandadfphlandaaGreatDoor
open Go.RowKit
theorem shaN_lt (s : List UInt8) : ∀ x ∈ shaN s, x < 256 := by
  intro x hx
  simp only [shaN, outN, List.mem_map] at hx
  obtain ⟨i, _, rfl⟩ := hx
  exact Nat.mod_lt _ (by decide)
end Go.Proofs.YtandadfphlandaaGreatDoor
namespace Go.Proofs.YtandadfphlandaaGreatDoor
open Go.RowKit Go.BigFrame
theorem nameN_ok (o : OpN) : IdOk (nameN o) := ⟨shaN_len _, shaN_lt _⟩
theorem at_one9 (w : World) (r : List UInt8) : StrsAt (some ⟨w.heap.size, 0, none⟩) [r] (w.alloc (.cells #[.string ⟨r.toArray⟩] 9)) := by
  refine strsAt_own (B := w.heap.size) (c := 1) ?_
  exact World.ownsRow_lit (base := w.heap.size) (e := 9) (size := 1) w #[.string ⟨r.toArray⟩] 1 (Nat.le_refl _) (by unfold maxLen; omega) rfl
theorem name_small {o : OpN} (h : o.Fit) : (listB [[111, 112], opB o]).length ≤ 10000 := by
  have h1 := opB_le9 h
  rw [listB_length]
  simp only [List.length_cons, List.length_nil, Nat.zero_add, Nat.reduceAdd, textsB_cons, List.length_append]
  have e2 : (textsB []).length = 0 := rfl
  have a0 := numB_len9 (n := 2) (by decide)
  have a1 := textB_le9 (t := [111, 112]) (by simp)
  have a2 := textB_le9 (t := opB o) (by omega)
  simp only [List.length_cons, List.length_nil, Nat.zero_add, Nat.reduceAdd] at a1
  omega
set_option maxHeartbeats 4000000 in
set_option maxRecDepth 100000 in
theorem dev_name9 (o : OpN) (pa : Option Addr) (pc : Nat) (w : World) (ho : o.Fit) (hp : IAt pa o.preds w) (hk : KAt w) :
    Calls Tryz.prog 28 #[.agg (opV o pa pc)] w fun e w' => e = .returned (.agg (nums .u8 (nameN o)).toArray) ∧ Below w.heap.size w w' := by
  have hb1 : Below w.heap.size w (w.alloc (.cells (opV o pa pc) 38)) := (Below.refl _ _).alloc (Nat.le_refl _) _
  have hx1 : Cells w.heap.size 38 (opV o pa pc) (w.alloc (.cells (opV o pa pc) 38)) := heap_alloc_new w _
  have hs1 : (w.alloc (.cells (opV o pa pc) 38)).heap.size = w.heap.size + 1 := World.size_alloc _ _
  have hb2 : Below (w.alloc (.cells (opV o pa pc) 38)).heap.size (w.alloc (.cells (opV o pa pc) 38)) ((w.alloc (.cells (opV o pa pc) 38)).alloc (.cells (nums .u8 zeroI).toArray 25)) := (Below.refl _ _).alloc (Nat.le_refl _) _
  have hx2 : Blk (w.alloc (.cells (opV o pa pc) 38)).heap.size 25 .u8 zeroI ((w.alloc (.cells (opV o pa pc) 38)).alloc (.cells (nums .u8 zeroI).toArray 25)) := heap_alloc_new _ _
  rw [hs1] at hx2
  have hbb := hb1.trans (hb2.mono hb1.size)
  have HX := Lib.hid (hx1.below hb2)
  have HY := Lib.hid hx2
  have HB := Lib.hid hbb
  have HP := Lib.hid (hp.below hbb)
  have HK := Lib.hid (hk.below hbb)
  have HF := Lib.hid ho
  have HSV := Lib.hid (show (Tryz.prog.info? 38).map (·.size) = some (opV o pa pc).size by rw [opV_size ho.ok.ref.1]; exact Tryz.sizeO)
  clear hb1 hx1 hs1 hb2 hx2 hbb hp hk ho
  go_enter Tryz.func28, Tryz.ntmps28
  go_upto_region 1 with (fail)
  change Code.wp _ _ _ _ ((w.alloc (.cells (opV o pa pc) 38)).alloc (.cells (nums .u8 zeroI).toArray 25))
  obtain ⟨w1, hw1⟩ : ∃ x, x = (w.alloc (.cells (opV o pa pc) 38)).alloc (.cells (nums .u8 zeroI).toArray 25) := ⟨_, rfl⟩
  rw [← hw1] at HX HY HB HP HK ⊢
  clear hw1
  go_wp2_with (refine wpList_load_cells rfl 38 _ rfl w.heap.size (opV o pa pc) 38 _ rfl HX.out Tryz.underlying38 rfl HSV.out ?_)
  refine (dev_text9 o pa pc w1 HF.out HP.out).mono ?_
  rintro e w2 ⟨rfl, hb⟩
  have HY2 := Lib.hid (HY.out.below hb)
  have HB2 := Lib.hid (HB.out.trans (hb.mono HB.out.size))
  have HK2 := Lib.hid (HK.out.below hb)
  clear hb HX HY HB HP HK
  have HSM := Lib.hid (dev_sum [111, 112] (some ⟨w2.heap.size, 0, none⟩) 1 [opB o] _ (at_one9 w2 (opB o)) (fun h => by cases h) (by simp) (by have := name_small HF.out; omega) (HK2.out.below ((Below.refl _ _).alloc (Nat.le_refl _) _)))
  rw [show shaN (listB [[111, 112], opB o]) = nameN o from rfl] at HSM
  have HNL := Lib.hid (nameN_ok o).1
  obtain ⟨N, hN⟩ : ∃ N, nameN o = N := ⟨_, rfl⟩
  have HNE := Shut.mk hN
  rw [hN] at HSM HNL
  clear hN
  go_wp2_with fail
  refine HSM.out.mono ?_
  rintro e w3 ⟨rfl, hb3⟩
  have hb : Below w2.heap.size w2 w3 := ((Below.refl _ w2).alloc (Nat.le_refl _) _).trans (hb3.mono (by simp))
  have HY3 := Lib.hid (HY2.out.below hb)
  have HB3 := Lib.hid (HB2.out.trans (hb.mono HB2.out.size))
  have HI := Lib.hid (show (Tryz.prog.info? 25).map (·.size) = some N.length by rw [HNL.out]; exact Tryz.sizeI)
  have HL2 := Lib.hid (show zeroI.length = N.length by rw [HNL.out]; rfl)
  clear hb hb3 HY2 HB2 HK2 HSM
  go_wp2_with (refine wpList_store_nums rfl 25 _ _ rfl rfl (w.heap.size + 1) .u8 zeroI N 25 rfl rfl HY3.out HI.out HL2.out ?_)
  intro w4 hc hb
  have HC4 := Lib.hid (show Blk (w.heap.size + 1) 25 .u8 N w4 from hc.out)
  have HB4 := Lib.hid (show Below w.heap.size w w4 from But.toBelow HB3.out hb.out (by omega) HB3.out.size)
  clear hc hb HY3 HB3
  go_wp2_with fail
  exact bodyPost_ret (results_nums rfl _ _ (w.heap.size + 1) .u8 _ 25 _ rfl HC4.out Tryz.underlying25 rfl HI.out) rfl ⟨by rw [HNE.out], HB4.out⟩
set_option maxHeartbeats 4000000 in
set_option maxRecDepth 100000 in
theorem ref_name9 (o : OpN) (pa : Option Addr) (pc : Nat) (w : World) (ho : o.Fit) (hp : IAt pa o.preds w) :
    Calls Tryz.prog 23 #[.agg (opV o pa pc)] w fun e w' => e = .returned (.agg (nums .u8 (nameN o)).toArray) ∧ Below w.heap.size w w' := by
  have hb1 : Below w.heap.size w (w.alloc (.cells (opV o pa pc) 38)) := (Below.refl _ _).alloc (Nat.le_refl _) _
  have hx1 : Cells w.heap.size 38 (opV o pa pc) (w.alloc (.cells (opV o pa pc) 38)) := heap_alloc_new w _
  have hs1 : (w.alloc (.cells (opV o pa pc) 38)).heap.size = w.heap.size + 1 := World.size_alloc _ _
  have hb2 : Below (w.alloc (.cells (opV o pa pc) 38)).heap.size (w.alloc (.cells (opV o pa pc) 38)) ((w.alloc (.cells (opV o pa pc) 38)).alloc (.cells (nums .u8 zeroI).toArray 25)) := (Below.refl _ _).alloc (Nat.le_refl _) _
  have hx2 : Blk (w.alloc (.cells (opV o pa pc) 38)).heap.size 25 .u8 zeroI ((w.alloc (.cells (opV o pa pc) 38)).alloc (.cells (nums .u8 zeroI).toArray 25)) := heap_alloc_new _ _
  rw [hs1] at hx2
  have hbb := hb1.trans (hb2.mono hb1.size)
  have HX := Lib.hid (hx1.below hb2)
  have HY := Lib.hid hx2
  have HB := Lib.hid hbb
  have HP := Lib.hid (hp.below hbb)
  have HF := Lib.hid ho
  have HSV := Lib.hid (show (Tryz.prog.info? 38).map (·.size) = some (opV o pa pc).size by rw [opV_size ho.ok.ref.1]; exact Tryz.sizeO)
  clear hb1 hx1 hs1 hb2 hx2 hbb hp ho
  go_enter Tryz.func23, Tryz.ntmps23
  go_upto_region 1 with (fail)
  change Code.wp _ _ _ _ ((w.alloc (.cells (opV o pa pc) 38)).alloc (.cells (nums .u8 zeroI).toArray 25))
  obtain ⟨w1, hw1⟩ : ∃ x, x = (w.alloc (.cells (opV o pa pc) 38)).alloc (.cells (nums .u8 zeroI).toArray 25) := ⟨_, rfl⟩
  rw [← hw1] at HX HY HB HP ⊢
  clear hw1
  go_wp2_with (refine wpList_load_cells rfl 38 _ rfl w.heap.size (opV o pa pc) 38 _ rfl HX.out Tryz.underlying38 rfl HSV.out ?_)
  refine (ref_text9 o pa pc w1 HF.out HP.out).mono ?_
  rintro e w2 ⟨rfl, hb⟩
  have HY2 := Lib.hid (HY.out.below hb)
  have HB2 := Lib.hid (HB.out.trans (hb.mono HB.out.size))
  clear hb HX HY HB HP
  have HSM := Lib.hid (ref_sum [111, 112] (some ⟨w2.heap.size, 0, none⟩) 1 [opB o] _ (at_one9 w2 (opB o)) (fun h => by cases h) (by simp) (by have := name_small HF.out; omega))
  rw [show shaN (listB [[111, 112], opB o]) = nameN o from rfl] at HSM
  have HNL := Lib.hid (nameN_ok o).1
  obtain ⟨N, hN⟩ : ∃ N, nameN o = N := ⟨_, rfl⟩
  have HNE := Shut.mk hN
  rw [hN] at HSM HNL
  clear hN
  go_wp2_with fail
  refine HSM.out.mono ?_
  rintro e w3 ⟨rfl, hb3⟩
  have hb : Below w2.heap.size w2 w3 := ((Below.refl _ w2).alloc (Nat.le_refl _) _).trans (hb3.mono (by simp))
  have HY3 := Lib.hid (HY2.out.below hb)
  have HB3 := Lib.hid (HB2.out.trans (hb.mono HB2.out.size))
  have HI := Lib.hid (show (Tryz.prog.info? 25).map (·.size) = some N.length by rw [HNL.out]; exact Tryz.sizeI)
  have HL2 := Lib.hid (show zeroI.length = N.length by rw [HNL.out]; rfl)
  clear hb hb3 HY2 HB2 HSM
  go_wp2_with (refine wpList_store_nums rfl 25 _ _ rfl rfl (w.heap.size + 1) .u8 zeroI N 25 rfl rfl HY3.out HI.out HL2.out ?_)
  intro w4 hc hb
  have HC4 := Lib.hid (show Blk (w.heap.size + 1) 25 .u8 N w4 from hc.out)
  have HB4 := Lib.hid (show Below w.heap.size w w4 from But.toBelow HB3.out hb.out (by omega) HB3.out.size)
  clear hc hb HY3 HB3
  go_wp2_with fail
  exact bodyPost_ret (results_nums rfl _ _ (w.heap.size + 1) .u8 _ 25 _ rfl HC4.out Tryz.underlying25 rfl HI.out) rfl ⟨by rw [HNE.out], HB4.out⟩
end Go.Proofs.YtandadfphlandaaGreatDoor
namespace Go.Proofs.YtandadfphlandaaGreatDoor
open Go.RowKit Go.BigFrame
set_option maxHeartbeats 2000000 in
set_option maxRecDepth 100000 in
theorem ref_goodDraft (d : DraftN) (hr : IdOk d.ref) (hk : d.key.length ≤ 140737488351232) (hv : d.val.length ≤ 140737488351232) (w : World) :
    Calls Tryz.prog 43 #[.agg (draftV d)] w fun e w' => e = .returned (.bool (decide (GoodD d))) ∧ Below w.heap.size w w' := by
  have hx : Cells w.heap.size 27 (draftV d) (w.alloc (.cells (draftV d) 27)) := heap_alloc_new w _
  have hb : Below w.heap.size w (w.alloc (.cells (draftV d) 27)) := (Below.refl _ _).alloc (Nat.le_refl _) _
  obtain ⟨c0, c1, c2, c3⟩ := draft_cells hx
  have HC3 := Lib.hid c3
  have HB := Lib.hid hb
  have heq := fun w' => equal_idI d.ref zeroI hr.1 zeroI_ok.1 hr.2 zeroI_ok.2 w'
  have HI := Lib.hid (show (Tryz.prog.info? 25).map (·.size) = some d.ref.length by rw [hr.1]; exact Tryz.sizeI)
  obtain ⟨k, hkd⟩ : ∃ k, d.kind = k := ⟨_, rfl⟩
  obtain ⟨kl, hkl⟩ : ∃ n, d.key.length = n := ⟨_, rfl⟩
  obtain ⟨vl, hvl⟩ : ∃ n, d.val.length = n := ⟨_, rfl⟩
  have HG := Shut.mk (show GoodD d ↔ 1 ≤ k ∧ k ≤ 5 ∧ 1 ≤ kl ∧ kl ≤ 16 ∧ vl ≤ 64 ∧ (k ≤ 3 → d.ref = zeroI) ∧ (k = 5 → d.ref ≠ zeroI ∧ d.val = []) by rw [← hkd, ← hkl, ← hvl]; rfl)
  rw [hkd] at c0
  clear hx hb c3
  by_cases h1 : k < 1
  · have hgd : decide (GoodD d) = false := decide_eq_false (fun h => by have := HG.out.1 h; omega)
    rw [hgd]
    go_enter Tryz.func43, Tryz.ntmps43
    go_wp2_with fail
    go_ret
    exact ⟨rfl, HB.out⟩
  by_cases h2 : 5 < k
  · have hgd : decide (GoodD d) = false := decide_eq_false (fun h => by have := HG.out.1 h; omega)
    rw [hgd]
    go_enter Tryz.func43, Tryz.ntmps43
    go_wp2_with fail
    go_ret
    exact ⟨rfl, HB.out⟩
  by_cases h3 : kl < 1
  · have hgd : decide (GoodD d) = false := decide_eq_false (fun h => by have := HG.out.1 h; omega)
    rw [hgd]
    go_enter Tryz.func43, Tryz.ntmps43
    go_wp2_with fail
    go_ret
    exact ⟨rfl, HB.out⟩
  by_cases h4 : 16 < kl
  · have hgd : decide (GoodD d) = false := decide_eq_false (fun h => by have := HG.out.1 h; omega)
    rw [hgd]
    go_enter Tryz.func43, Tryz.ntmps43
    go_wp2_with fail
    go_ret
    exact ⟨rfl, HB.out⟩
  by_cases h5 : 64 < vl
  · have hgd : decide (GoodD d) = false := decide_eq_false (fun h => by have := HG.out.1 h; omega)
    rw [hgd]
    go_enter Tryz.func43, Tryz.ntmps43
    go_wp2_with fail
    go_ret
    exact ⟨rfl, HB.out⟩
  obtain ⟨z, hz2⟩ : ∃ z, (d.ref == zeroI) = z := ⟨_, rfl⟩
  have HZ := Shut.mk hz2
  rw [hz2, zeroI_lit] at heq
  clear hz2
  have hzp : (z = true ↔ d.ref = zeroI) := by rw [← HZ.out]; simp
  by_cases h6 : k ≤ 3
  · have hgd : decide (GoodD d) = z := by
      cases z with
      | true => exact decide_eq_true (HG.out.2 ⟨by omega, by omega, by omega, by omega, by omega, fun _ => hzp.1 rfl, fun h => by omega⟩)
      | false => exact decide_eq_false (fun h => by have := hzp.2 ((HG.out.1 h).2.2.2.2.2.1 h6); cases this)
    rw [hgd]
    clear hgd hzp
    go_enter Tryz.func43, Tryz.ntmps43
    go_wp2_with (refine wpList_load_id rfl 25 _ rfl w.heap.size 3 d.ref _ rfl HC3.out Tryz.underlying25 rfl HI.out ?_)
    go_ret
    exact ⟨rfl, HB.out⟩
  by_cases h7 : k = 4
  · have hgd : decide (GoodD d) = true := decide_eq_true (HG.out.2 ⟨by omega, by omega, by omega, by omega, by omega, fun h => by omega, fun h => by omega⟩)
    rw [hgd]
    clear hgd hzp
    have h8 : (k == 4) = true := by simp [h7]
    go_enter Tryz.func43, Tryz.ntmps43
    go_wp2_with (refine wpList_load_id rfl 25 _ rfl w.heap.size 3 d.ref _ rfl HC3.out Tryz.underlying25 rfl HI.out ?_)
    go_ret
    exact ⟨rfl, HB.out⟩
  have h8 : (k == 4) = false := by simp [h7]
  have hgd : decide (GoodD d) = (!z && d.val == []) := by
    rw [val_nil_beq]
    cases z with
    | true => exact decide_eq_false (fun h => ((HG.out.1 h).2.2.2.2.2.2 (by omega)).1 (hzp.1 rfl))
    | false =>
      by_cases hv0 : d.val = []
      · rw [decide_eq_true hv0]
        exact decide_eq_true (HG.out.2 ⟨by omega, by omega, by omega, by omega, by omega, fun h => by omega, fun _ => ⟨fun e => (by have := hzp.2 e; cases this), hv0⟩⟩)
      · rw [decide_eq_false hv0]
        exact decide_eq_false (fun h => hv0 ((HG.out.1 h).2.2.2.2.2.2 (by omega)).2)
  rw [hgd]
  clear hgd hzp
  cases z with
  | true =>
    go_enter Tryz.func43, Tryz.ntmps43
    go_wp2_with (refine wpList_load_id rfl 25 _ rfl w.heap.size 3 d.ref _ rfl HC3.out Tryz.underlying25 rfl HI.out ?_)
    go_ret
    exact ⟨rfl, HB.out⟩
  | false =>
    go_enter Tryz.func43, Tryz.ntmps43
    go_wp2_with (refine wpList_load_id rfl 25 _ rfl w.heap.size 3 d.ref _ rfl HC3.out Tryz.underlying25 rfl HI.out ?_)
    go_ret
    exact ⟨rfl, HB.out⟩
end Go.Proofs.YtandadfphlandaaGreatDoor
namespace Go.Proofs.YtandadfphlandaaGreatDoor
open Go.RowKit Go.BigFrame
set_option maxHeartbeats 4000000 in
set_option maxRecDepth 100000 in
theorem ref_good (o : OpN) (pa : Option Addr) (pc : Nat) (w : World) (ho : o.Ok) (hp : IAt pa o.preds w) (hk : o.d.key.length ≤ 140737488351232) (hv : o.d.val.length ≤ 140737488351232) (hn : o.preds.length ≤ 140737488351232) :
    Calls Tryz.prog 34 #[.agg (opV o pa pc)] w fun e w' => e = .returned (.bool (decide (GoodO o))) ∧ Below w.heap.size w w' := by
  have b1 : Below w.heap.size w (w.alloc (.cells (opV o pa pc) 38)) := (Below.refl _ _).alloc (Nat.le_refl _) _
  have x1 : Cells w.heap.size 38 (opV o pa pc) (w.alloc (.cells (opV o pa pc) 38)) := heap_alloc_new w _
  have HP := Lib.hid (hp.below b1)
  have HB := Lib.hid b1
  have HX := Lib.hid x1
  have HGD := Lib.hid (fun w' => ref_goodDraft o.d ho.ref hk hv w')
  have HO := Lib.hid ho
  have HN := Lib.hid hn
  clear b1 x1 ho hp hk hv
  go_enter Tryz.func34, Tryz.ntmps34
  go_upto_region 1 with (fail)
  obtain ⟨w1, hw1⟩ : ∃ x, x = w.alloc (.cells (opV o pa pc) 38) := ⟨_, rfl⟩
  rw [← hw1] at HP HB HX ⊢
  obtain ⟨c0, c35, c36, c37⟩ := op_cells HO.out.ref.1 HX.out
  clear hw1 c0
  obtain ⟨n, hnn⟩ : ∃ n, o.preds.length = n := ⟨_, rfl⟩
  have HNN := Shut.mk hnn
  rw [hnn] at c37 hn
  clear hnn
  go_wp2_with fail
  go_loopw [7] (fun i wr => ∃ k : Nat, k ≤ n ∧ i = .int .i64 k ∧ (∀ j, j < k → 0 < j → cmpN (o.preds.getD (j - 1) []) (o.preds.getD j []) = -1) ∧ Below w1.heap.size w1 wr) (fun i _ => n - (intOf i).toNat)
  case atStart => exact ⟨0, Nat.zero_le _, rfl, fun j hj => by omega, Below.refl _ _⟩
  case round =>
    obtain ⟨k, hk, rfl, hasc, hb⟩ := hrel
    have HY := Lib.hid (HB.out.trans (hb.mono HB.out.size))
    have HXW := Lib.hid (HX.out.below hb)
    have HPW := Lib.hid (HP.out.below hb)
    have HASC := Lib.hid hasc
    have HBW := Lib.hid hb
    obtain ⟨c0, c35, c36, c37⟩ := op_cells HO.out.ref.1 HXW.out
    rw [HNN.out] at c37
    clear hasc hb
    by_cases hlt : k < n
    · by_cases h0 : k = 0
      · subst h0
        go_upto_region 4 with (fail)
        go_quiet (fail)
        go_wp2_with fail
        exact ⟨⟨1, by omega, by go_num, fun j hj h => by omega, drawn_below HBW.out _⟩, by simp [intOf]; omega⟩
      · obtain ⟨j, rfl⟩ : ∃ j, k = j + 1 := ⟨k - 1, by omega⟩
        obtain ⟨b, ob, rfl, hbl⟩ := HPW.out.some (by rw [HNN.out]; omega)
        have g1 := HPW.out.get (i := j) (by rw [HNN.out]; omega)
        have g2 := HPW.out.get (i := j + 1) (by rw [HNN.out]; omega)
        have i1 := Ids.getD HO.out.preds (i := j) (by rw [HNN.out]; omega)
        have i2 := Ids.getD HO.out.preds (i := j + 1) (by rw [HNN.out]; omega)
        obtain ⟨x, hx⟩ : ∃ x, o.preds.getD j [] = x := ⟨_, rfl⟩
        obtain ⟨y, hy⟩ : ∃ y, o.preds.getD (j + 1) [] = y := ⟨_, rfl⟩
        rw [hx] at g1 i1
        rw [hy] at g2 i2
        have HXE := Shut.mk hx
        have HYE := Shut.mk hy
        have HC := Lib.hid (fun w' => ref_compare x y i1 i2 w')
        have HR1 := Lib.hid (fun (w' : World) (q : Below wr.heap.size wr w') => show w'.rangeAt b (ob + j * 32) (nums .u8 x) from rangeAt_belowI g1 q hbl)
        have HR2 := Lib.hid (fun (w' : World) (q : Below wr.heap.size wr w') => show w'.rangeAt b (ob + (j + 1) * 32) (nums .u8 y) from rangeAt_belowI g2 q hbl)
        have HS1 := Lib.hid (show (Tryz.prog.info? 25).map (·.size) = some x.length by rw [i1.1]; exact Tryz.sizeI)
        have HS2 := Lib.hid (show (Tryz.prog.info? 25).map (·.size) = some y.length by rw [i2.1]; exact Tryz.sizeI)
        have hxl := HXW.out.lt
        have HC37 := Lib.hid (fun (w' : World) (q : Below wr.heap.size wr w') => show w'.cell? ⟨w.heap.size, 37, none⟩ = some (.slice (some ⟨b, ob, none⟩) n pc) from (q.cell (p := ⟨w.heap.size, 37, none⟩) hxl).trans c37)
        obtain ⟨r, hr⟩ : ∃ r, cmpN x y = r := ⟨_, rfl⟩
        rw [hr] at HC
        have HRE := Shut.mk hr
        have HJ1 := Shut.mk (show ((j + 1 : Nat) : Int) - 1 = (j : Int) by omega)
        clear hx hy g1 g2 i1 i2 hr h0 c0 c35 c36
        by_cases hrr : r = -1
        · subst hrr
          go_upto_region 4 with (fail)
          refine wp_region_class (fun w' => Below wr.heap.size wr w') (by kernel_rfl) (by kernel_rfl) (Below.refl _ _).drew ?_
          repeat (first
            | go_big_quiet_skip
            | (go_big_quiet_want; refine quiet_load_cell 34 _ rfl ⟨w.heap.size, 37, none⟩ _ rfl HC37.out Tryz.isAgg34 ?_; go_big_quiet_on; simp only [Act.put, List.setIfInBounds_toArray, List.set_cons_zero, List.set_cons_succ])
            | (go_big_quiet_want; refine quiet_load_id 25 _ rfl b (ob + j * 32) x _ rfl HR1.out Tryz.underlying25 rfl HS1.out ?_; go_big_quiet_on; simp only [Act.put, List.setIfInBounds_toArray, List.set_cons_zero, List.set_cons_succ])
            | (go_big_quiet_want; refine quiet_load_id 25 _ rfl b (ob + (j + 1) * 32) y _ rfl HR2.out Tryz.underlying25 rfl HS2.out ?_; go_big_quiet_on; simp only [Act.put, List.setIfInBounds_toArray, List.set_cons_zero, List.set_cons_succ])
            | go_big_quiet_step ((intro hs'; first
                | rfl
                | (go_at_call 38; exact (HC.out _).mono fun e w' h => ⟨h.1, hs'.trans (h.2.mono hs'.size)⟩))))
          refine wpQuiet_nil ?_
          intro w2 hb2
          go_wp2_with fail
          refine ⟨⟨j + 1 + 1, by omega, by go_num, fun q hq h => ?_, HBW.out.trans (hb2.mono HBW.out.size)⟩, by simp [intOf]; omega⟩
          by_cases hqj : q = j + 1
          · subst hqj
            rw [Nat.add_sub_cancel, HXE.out, HYE.out]
            exact HRE.out
          · exact HASC.out q (by omega) h
        · have hrb : (r == -1) = false := by simp [hrr]
          have HGF := Shut.mk (show decide (GoodO o) = false from decide_eq_false (fun h => hrr (by
            have h1 := h.1 (j + 1) (by rw [HNN.out]; omega) (by omega)
            rw [Nat.add_sub_cancel, HXE.out, HYE.out] at h1
            rw [← HRE.out, h1])))
          clear hrr
          go_upto_region 4 with (fail)
          refine wp_region_class (fun w' => Below wr.heap.size wr w') (by kernel_rfl) (by kernel_rfl) (Below.refl _ _).drew ?_
          repeat (first
            | go_big_quiet_skip
            | (go_big_quiet_want; refine quiet_load_cell 34 _ rfl ⟨w.heap.size, 37, none⟩ _ rfl HC37.out Tryz.isAgg34 ?_; go_big_quiet_on; simp only [Act.put, List.setIfInBounds_toArray, List.set_cons_zero, List.set_cons_succ])
            | (go_big_quiet_want; refine quiet_load_id 25 _ rfl b (ob + j * 32) x _ rfl HR1.out Tryz.underlying25 rfl HS1.out ?_; go_big_quiet_on; simp only [Act.put, List.setIfInBounds_toArray, List.set_cons_zero, List.set_cons_succ])
            | (go_big_quiet_want; refine quiet_load_id 25 _ rfl b (ob + (j + 1) * 32) y _ rfl HR2.out Tryz.underlying25 rfl HS2.out ?_; go_big_quiet_on; simp only [Act.put, List.setIfInBounds_toArray, List.set_cons_zero, List.set_cons_succ])
            | go_big_quiet_step ((intro hs'; first
                | rfl
                | (go_at_call 38; exact (HC.out _).mono fun e w' h => ⟨h.1, hs'.trans (h.2.mono hs'.size)⟩))))
          refine wpQuiet_nil ?_
          intro w2 hb2
          go_wp2_with fail
          go_ret
          exact ⟨by rw [HGF.out]; rfl, HY.out.trans (hb2.mono HY.out.size)⟩
    · obtain rfl : k = n := by omega
      have HAS := Lib.hid (show AscN o.preds from fun j hj h0 => HASC.out j (by rw [← HNN.out]; exact hj) h0)
      have hnil : o.preds = [] ↔ k = 0 := by rw [← HNN.out]; exact List.length_eq_zero_iff.symm
      obtain ⟨D, hD⟩ : ∃ D, o.depth = D := ⟨_, rfl⟩
      obtain ⟨A, hA⟩ : ∃ A, o.author = A := ⟨_, rfl⟩
      rw [hD] at c36
      rw [hA] at c35
      have HGI := Shut.mk (show GoodO o ↔ (k = 0 → D = 1) ∧ (k ≠ 0 → 2 ≤ D) ∧ k ≤ 32 ∧ GoodD o.d ∧ 0 ≤ A ∧ A ≤ 4 from
        ⟨fun h => ⟨fun e => by rw [← hD]; exact h.2.1 (hnil.2 e), fun e => by rw [← hD]; exact h.2.2.1 (fun e2 => e (hnil.1 e2)), by rw [← HNN.out]; exact h.2.2.2.1, h.2.2.2.2.1, by rw [← hA]; exact h.2.2.2.2.2.1, by rw [← hA]; exact h.2.2.2.2.2.2⟩,
         fun h => ⟨HAS.out, fun e => by rw [hD]; exact h.1 (hnil.1 e), fun e => by rw [hD]; exact h.2.1 (fun e2 => e (hnil.2 e2)), by rw [HNN.out]; exact h.2.2.1, h.2.2.2.1, by rw [hA]; exact h.2.2.2.2.1, by rw [hA]; exact h.2.2.2.2.2⟩⟩)
      have HSD := Lib.hid (show (Tryz.prog.info? 27).map (·.size) = some (draftL o.d).length by rw [draftL_len HO.out.ref.1]; exact Tryz.sizeD)
      have HC0 := Lib.hid c0
      clear hnil hD c0
      by_cases hbad : (k = 0 ∧ D ≠ 1) ∨ (k ≠ 0 ∧ D < 2) ∨ 32 < k
      · have HGF := Shut.mk (show decide (GoodO o) = false from decide_eq_false (fun h => by have := HGI.out.1 h; omega))
        by_cases hk0 : k = 0
        · subst hk0
          have hd1 : (D == 1) = false := by simp; omega
          go_wp2_with fail
          go_ret
          exact ⟨by rw [HGF.out]; rfl, HY.out⟩
        · have hk0b : (k == 0) = false := by simp; omega
          by_cases hd2 : D < 2
          · go_wp2_with fail
            go_ret
            exact ⟨by rw [HGF.out]; rfl, HY.out⟩
          · have h32 : 32 < k := by omega
            go_wp2_with fail
            go_ret
            exact ⟨by rw [HGF.out]; rfl, HY.out⟩
      · have HAE := Shut.mk hA
        clear hA
        by_cases hk0 : k = 0
        · subst hk0
          have hd1 : (D == 1) = true := by simp; omega
          go_wp2_with (refine wpList_load_mid rfl 27 _ rfl w.heap.size 0 rfl (draftL o.d) _ HC0.out Tryz.underlying27 rfl HSD.out ?_)
          refine (HGD.out wr).mono ?_
          rintro e w2 ⟨rfl, hb2⟩
          have HZ := Lib.hid (HY.out.trans (hb2.mono HY.out.size))
          have HXZ := Lib.hid (HXW.out.below hb2)
          obtain ⟨_, d35, _, _⟩ := op_cells HO.out.ref.1 HXZ.out
          rw [HAE.out] at d35
          clear hb2 HY HXW
          by_cases hg : GoodD o.d
          · have hgd : decide (GoodD o.d) = true := decide_eq_true hg
            rw [hgd]
            by_cases ha : 0 ≤ A
            · by_cases ha2 : A ≤ 4
              · have HGT := Shut.mk (show decide (GoodO o) = true from decide_eq_true (HGI.out.2 ⟨by omega, by omega, by omega, hg, ha, ha2⟩))
                clear hgd hg
                go_wp2_with fail
                go_ret
                exact ⟨by rw [HGT.out]; rfl, HZ.out⟩
              · have HGF := Shut.mk (show decide (GoodO o) = false from decide_eq_false (fun h => ha2 (HGI.out.1 h).2.2.2.2.2))
                clear hgd hg
                go_wp2_with fail
                go_ret
                refine ⟨?_, HZ.out⟩
                rw [HGF.out]
                show Ending.returned (Value.bool (decide (A ≤ 4))) = _
                rw [decide_eq_false (by omega)]
            · have HGF := Shut.mk (show decide (GoodO o) = false from decide_eq_false (fun h => ha (HGI.out.1 h).2.2.2.2.1))
              clear hgd hg
              go_wp2_with fail
              go_ret
              exact ⟨by rw [HGF.out]; rfl, HZ.out⟩
          · have hgd : decide (GoodD o.d) = false := decide_eq_false hg
            have HGF := Shut.mk (show decide (GoodO o) = false from decide_eq_false (fun h => hg (HGI.out.1 h).2.2.2.1))
            rw [hgd]
            clear hgd hg
            go_wp2_with fail
            go_ret
            exact ⟨by rw [HGF.out]; rfl, HZ.out⟩
        · have hk0b : (k == 0) = false := by simp; omega
          have hd2 : ¬ D < 2 := by omega
          have h32 : ¬ 32 < k := by omega
          go_wp2_with (refine wpList_load_mid rfl 27 _ rfl w.heap.size 0 rfl (draftL o.d) _ HC0.out Tryz.underlying27 rfl HSD.out ?_)
          refine (HGD.out wr).mono ?_
          rintro e w2 ⟨rfl, hb2⟩
          have HZ := Lib.hid (HY.out.trans (hb2.mono HY.out.size))
          have HXZ := Lib.hid (HXW.out.below hb2)
          obtain ⟨_, d35, _, _⟩ := op_cells HO.out.ref.1 HXZ.out
          rw [HAE.out] at d35
          clear hb2 HY HXW
          by_cases hg : GoodD o.d
          · have hgd : decide (GoodD o.d) = true := decide_eq_true hg
            rw [hgd]
            by_cases ha : 0 ≤ A
            · by_cases ha2 : A ≤ 4
              · have HGT := Shut.mk (show decide (GoodO o) = true from decide_eq_true (HGI.out.2 ⟨by omega, by omega, by omega, hg, ha, ha2⟩))
                clear hgd hg
                go_wp2_with fail
                go_ret
                exact ⟨by rw [HGT.out]; rfl, HZ.out⟩
              · have HGF := Shut.mk (show decide (GoodO o) = false from decide_eq_false (fun h => ha2 (HGI.out.1 h).2.2.2.2.2))
                clear hgd hg
                go_wp2_with fail
                go_ret
                refine ⟨?_, HZ.out⟩
                rw [HGF.out]
                show Ending.returned (Value.bool (decide (A ≤ 4))) = _
                rw [decide_eq_false (by omega)]
            · have HGF := Shut.mk (show decide (GoodO o) = false from decide_eq_false (fun h => ha (HGI.out.1 h).2.2.2.2.1))
              clear hgd hg
              go_wp2_with fail
              go_ret
              exact ⟨by rw [HGF.out]; rfl, HZ.out⟩
          · have hgd : decide (GoodD o.d) = false := decide_eq_false hg
            have HGF := Shut.mk (show decide (GoodO o) = false from decide_eq_false (fun h => hg (HGI.out.1 h).2.2.2.1))
            rw [hgd]
            clear hgd hg
            go_wp2_with fail
            go_ret
            exact ⟨by rw [HGF.out]; rfl, HZ.out⟩
end Go.Proofs.YtandadfphlandaaGreatDoor
namespace Go.Proofs.YtandadfphlandaaGreatDoor
open Go.RowKit
theorem NewC.turn {s : Nat → Bool} {V : Nat → Value} {B i j : Nat} {t : TypeId} {cs : Array Value} {w w' : World} {u : Value} (h : NewC s V B j t cs w) (hne : j ≠ i) (hk : ∀ g, Cells g t cs w → Cells g t cs w') : NewC (fun j => s j || j == i) (upd V i u) B j t cs w' := fun hs => by
  obtain ⟨g, e, hg, hc⟩ := h (seen_ne hne hs)
  exact ⟨g, by rw [upd_ne V u hne]; exact e, hg, hk g hc⟩
end Go.Proofs.YtandadfphlandaaGreatDoor
