/-
  Sum and Cut, the developers' and the document's.
-/
import Derived.Test.YthgfpojfnhkckaaDoorShaDev
import Derived.Test.YthgfpojfnhkckaaDoorOf
import Derived.Test.YthgfpojfnhkckaaDoorPacks
import Derived.Laws.AppendOwnNone
import Derived.Test.YthgfpojfnhkckaaDoorBlocks
import Derived.StillTailTactics
import Derived.Deep.Cut
/-! Sum, the developers' and the document's: the digest of the encoding of the list. -/
namespace Go.Proofs.YthgfpojfnhkckaaDoor
open Go.RowKit

theorem strs_one (l : List (List UInt8)) : ∀ u ∈ strs l, u.oneCell' = true := by
  intro u hu
  simp only [strs, List.mem_map] at hu
  obtain ⟨n, _, rfl⟩ := hu
  rfl
theorem ownS_one (w : World) (p : List UInt8) : OwnS w.heap.size (.slice (some ⟨w.heap.size, 0, none⟩) 1 1) [p] (w.alloc (.cells #[.string ⟨p.toArray⟩] 9)) := by
  have h := World.ownsRow_lit (base := w.heap.size) (e := 9) (size := 1) w #[.string ⟨p.toArray⟩] 1 (Nat.le_refl _) (by unfold maxLen; omega) rfl
  exact h

theorem wpList_append_texts {w : World} {ops : Array Oper} {rest : List Oper} {o : Oper} {a : Act} {Q : Exit → Act → World → Prop} (hgd : o.guard = none) (s x : Operand)
    (ho : o.op = .call { callee := .builtin .append, args := #[s, x], argTypes := #[43, 43] })
    (B : Nat) (v : Value) (l m : List (List UInt8)) (ao : Option Addr) (c : Nat) (hs : a.eval s = v) (hown : OwnS B v l w) (hx : a.eval x = .slice ao m.length c) (hsrc : StrsAt ao m w) (hnil : ao = none → c = 0)
    (hlen : l.length + m.length ≤ 8796093022208) (hB : B ≤ w.heap.size)
    (h : ∀ v' w', Hid (OwnS B v' (l ++ m) w') → Hid (Below B w w') → wpList Tryd.prog ops Q rest (a.put o.dst v') w') : wpList Tryd.prog ops Q (o :: rest) a w := by
  obtain ⟨i, hi, hz0, hz1, hz2⟩ := info_parts Tryd.infoString
  cases ao with
  | none =>
    obtain rfl := hnil rfl
    have hm : m = [] := by
      rcases hsrc with h | ⟨b, o', h, _⟩
      · exact h
      · cases h
    subst hm
    refine wpList_append_own_none hgd s x _ ho B 9 i 1 Tryd.underlying43 hi v l.length (strs l) hs hown hx (h _ _ ?_ (Below.refl _ _))
    rw [List.append_nil]
    exact hown
  | some ad =>
    refine wpList_append_own_at w hgd s x _ ho B 9 i (.string ⟨#[]⟩) 1 16 Tryd.underlying43 hi hz0 hz1 hz2 rfl (by decide) v l.length (strs l) hs hown ad m.length c (strs m) hx (by rw [strs_length, Nat.mul_one]) ?_ (strs_one m)
      (by unfold maxLen; omega) (by omega) hB ?_
    · intro j u hj
      rcases hsrc with h0 | ⟨b, o', h0, _, hc⟩
      · subst h0; simp [strs] at hj
      · obtain rfl := Option.some.inj h0
        have hj' : j < m.length := by
          have := (List.getElem?_eq_some_iff.1 hj).1
          rwa [strs_length] at this
        have e : (⟨b, o', none⟩ : Addr).add j = ⟨b, o' + j, none⟩ := by simp only [Addr.add]; split <;> simp_all
        rw [e, hc j hj', ← hj, strs, List.getElem?_map, List.getElem?_eq_getElem hj']
        rfl
    · intro v' w' h2 hg _ _
      refine h v' w' ?_ ((Below.refl B w).grown hg hB (fun k hk => (World.ownsRow.lt hown k hk).1))
      show w'.ownsRow B 9 1 v' (l ++ m).length (strs (l ++ m))
      rw [List.length_append, show strs (l ++ m) = strs l ++ strs m by simp [strs]]
      exact h2

set_option maxHeartbeats 4000000 in
set_option maxRecDepth 100000 in
theorem dev_sum (p : List UInt8) (ao : Option Addr) (c : Nat) (l : List (List UInt8)) (w : World) (hs : StrsAt ao l w) (hnil : ao = none → c = 0) (hl : l.length ≤ 8796093000000) (hb : (listB (p :: l)).length ≤ 140737488350000) (hk : KAt w) :
    Calls Tryd.prog 22 #[.string ⟨p.toArray⟩, .slice ao l.length c] w fun e w' => e = .returned (.agg (nums .u8 (shaN (listB (p :: l)))).toArray) ∧ Below w.heap.size w w' := by
  have HS := Lib.hid hs
  have HK := Lib.hid hk
  have HN := Lib.hid hnil
  have HLB := Lib.hid hb
  clear hs hk hnil hb
  go_enter Tryd.func22, Tryd.ntmps22
  go_upto_region 1 with (fail)
  change Code.wp _ _ _ _ (w.alloc (.cells (nums .u8 (List.replicate 32 0)).toArray 25))
  obtain ⟨wa, hwa⟩ : ∃ x, x = w.alloc (.cells (nums .u8 (List.replicate 32 0)).toArray 25) := ⟨_, rfl⟩
  rw [← hwa]
  have hb : Below w.heap.size w wa := by rw [hwa]; exact (Below.refl _ _).alloc (Nat.le_refl _) _
  have HR := Lib.hid (show Blk w.heap.size 25 .u8 (List.replicate 32 0) wa by rw [hwa]; exact heap_alloc_new w _)
  have HKa := Lib.hid (HK.out.below hb)
  have HSa := Lib.hid (HS.out.below hb)
  have HB := Lib.hid hb
  clear hwa hb HK HS
  have hsza := HB.out.size
  go_wp2_with (at_builtin; refine wpList_append_texts rfl _ _ rfl wa.heap.size _ [p] l ao c rfl (ownS_one wa p) rfl (HSa.out.below ((Below.refl _ _).alloc (Nat.le_refl _) _)) HN.out (by simp; omega) (by simp) ?_)
  intro v w1 hown hb1
  have hb1' : Below wa.heap.size wa w1 := ((Below.refl wa.heap.size wa).alloc (Nat.le_refl _) _).trans hb1.out
  obtain ⟨a1, c1, rfl⟩ := hown.out.form
  have HO := Lib.hid (show OwnS wa.heap.size (.slice a1 (p :: l).length c1) (p :: l) w1 from hown.out)
  have HR1 := Lib.hid (HR.out.below hb1')
  have HK1 := Lib.hid (HKa.out.below hb1')
  have HB1 := Lib.hid (HB.out.trans (hb1'.mono hsza))
  clear hown hb1 hb1' HR HKa HSa
  go_wp2_with fail
  refine (list_any a1 c1 (p :: l) w1 (strsAt_own HO.out) (by simp; omega) (by have := HLB.out; omega)).mono ?_
  rintro e w2 ⟨rfl, hb2⟩
  have HR2 := Lib.hid (HR1.out.below hb2)
  have HK2 := Lib.hid (HK1.out.below hb2)
  have HB2 := Lib.hid (HB1.out.trans (hb2.mono HB1.out.size))
  clear hb2 HR1 HK1 HB1 HO
  go_wp2_with fail
  refine (dev_of (listB (p :: l)) w2 HLB.out HK2.out).mono ?_
  rintro e w3 ⟨rfl, hb3⟩
  have HR3 := Lib.hid (HR2.out.below hb3)
  have HB3 := Lib.hid (HB2.out.trans (hb3.mono HB2.out.size))
  have HI := Lib.hid (show (Tryd.prog.info? 25).map (·.size) = some (shaN (listB (p :: l))).length by rw [shaN_len]; exact Tryd.infoId)
  have HL := Lib.hid (show (List.replicate 32 0).length = (shaN (listB (p :: l))).length by rw [shaN_len, List.length_replicate])
  clear hb3 HR2 HK2 HB2
  go_wp2_with (refine wpList_store_nums rfl 25 _ _ rfl rfl w.heap.size .u8 _ (shaN (listB (p :: l))) 25 rfl rfl HR3.out HI.out HL.out ?_)
  intro w7 hc hb
  have HC7 := Lib.hid (show Blk w.heap.size 25 .u8 (shaN (listB (p :: l))) w7 from hc.out)
  have HB7 := Lib.hid (show Below w.heap.size w w7 from But.toBelow HB3.out hb.out (Nat.le_refl _) HB3.out.size)
  clear hc hb
  go_wp2_with fail
  exact bodyPost_ret (results_nums rfl _ _ w.heap.size .u8 _ 25 _ rfl HC7.out Tryd.underlying25 rfl HI.out) rfl ⟨rfl, HB7.out⟩
set_option maxHeartbeats 4000000 in
set_option maxRecDepth 100000 in
theorem ref_sum (p : List UInt8) (ao : Option Addr) (c : Nat) (l : List (List UInt8)) (w : World) (hs : StrsAt ao l w) (hnil : ao = none → c = 0) (hl : l.length ≤ 8796093000000) (hb : (listB (p :: l)).length ≤ 140737488350000) :
    Calls Tryd.prog 23 #[.string ⟨p.toArray⟩, .slice ao l.length c] w fun e w' => e = .returned (.agg (nums .u8 (shaN (listB (p :: l)))).toArray) ∧ Below w.heap.size w w' := by
  have HS := Lib.hid hs
  have HN := Lib.hid hnil
  have HLB := Lib.hid hb
  clear hs hnil hb
  go_enter Tryd.func23, Tryd.ntmps23
  go_upto_region 1 with (fail)
  change Code.wp _ _ _ _ (w.alloc (.cells (nums .u8 (List.replicate 32 0)).toArray 25))
  obtain ⟨wa, hwa⟩ : ∃ x, x = w.alloc (.cells (nums .u8 (List.replicate 32 0)).toArray 25) := ⟨_, rfl⟩
  rw [← hwa]
  have hb : Below w.heap.size w wa := by rw [hwa]; exact (Below.refl _ _).alloc (Nat.le_refl _) _
  have HR := Lib.hid (show Blk w.heap.size 25 .u8 (List.replicate 32 0) wa by rw [hwa]; exact heap_alloc_new w _)
  have HSa := Lib.hid (HS.out.below hb)
  have HB := Lib.hid hb
  clear hwa hb HS
  have hsza := HB.out.size
  go_wp2_with (at_builtin; refine wpList_append_texts rfl _ _ rfl wa.heap.size _ [p] l ao c rfl (ownS_one wa p) rfl (HSa.out.below ((Below.refl _ _).alloc (Nat.le_refl _) _)) HN.out (by simp; omega) (by simp) ?_)
  intro v w1 hown hb1
  have hb1' : Below wa.heap.size wa w1 := ((Below.refl wa.heap.size wa).alloc (Nat.le_refl _) _).trans hb1.out
  obtain ⟨a1, c1, rfl⟩ := hown.out.form
  have HO := Lib.hid (show OwnS wa.heap.size (.slice a1 (p :: l).length c1) (p :: l) w1 from hown.out)
  have HR1 := Lib.hid (HR.out.below hb1')
  have HB1 := Lib.hid (HB.out.trans (hb1'.mono hsza))
  clear hown hb1 hb1' HR HSa
  go_wp2_with fail
  refine (rlistref_any a1 c1 (p :: l) w1 (strsAt_own HO.out) (by simp; omega) (by have := HLB.out; omega)).mono ?_
  rintro e w2 ⟨rfl, hb2⟩
  have HR2 := Lib.hid (HR1.out.below hb2)
  have HB2 := Lib.hid (HB1.out.trans (hb2.mono HB1.out.size))
  clear hb2 HR1 HB1 HO
  go_wp2_with fail
  refine (of_any (listB (p :: l)) w2 HLB.out).mono ?_
  rintro e w3 ⟨rfl, hb3⟩
  have HR3 := Lib.hid (HR2.out.below hb3)
  have HB3 := Lib.hid (HB2.out.trans (hb3.mono HB2.out.size))
  have HI := Lib.hid (show (Tryd.prog.info? 25).map (·.size) = some (shaN (listB (p :: l))).length by rw [shaN_len]; exact Tryd.infoId)
  have HL := Lib.hid (show (List.replicate 32 0).length = (shaN (listB (p :: l))).length by rw [shaN_len, List.length_replicate])
  clear hb3 HR2 HB2
  go_wp2_with (refine wpList_store_nums rfl 25 _ _ rfl rfl w.heap.size .u8 _ (shaN (listB (p :: l))) 25 rfl rfl HR3.out HI.out HL.out ?_)
  intro w7 hc hb
  have HC7 := Lib.hid (show Blk w.heap.size 25 .u8 (shaN (listB (p :: l))) w7 from hc.out)
  have HB7 := Lib.hid (show Below w.heap.size w w7 from But.toBelow HB3.out hb.out (Nat.le_refl _) HB3.out.size)
  clear hc hb
  go_wp2_with fail
  exact bodyPost_ret (results_nums rfl _ _ w.heap.size .u8 _ 25 _ rfl HC7.out Tryd.underlying25 rfl HI.out) rfl ⟨rfl, HB7.out⟩
end Go.Proofs.YthgfpojfnhkckaaDoor
