/-
  Sum and Cut, the developers' and the document's.
-/
import Derived.Test.YtcjjhddppcmgoaaDoorShaDev
import Derived.Test.YtcjjhddppcmgoaaDoorOf
import Derived.Test.YtcjjhddppcmgoaaDoorPacks
import Derived.Laws.AppendOwnNone
import Derived.Test.YtcjjhddppcmgoaaDoorBlocks
import Derived.StillTailTactics
import Derived.Deep.Cut
/-! Sum, the developers' and the document's: the digest of the encoding of the list. -/
namespace Go.Proofs.YtcjjhddppcmgoaaDoor
open Go.RowKit

theorem strs_one (l : List (List UInt8)) : ∀ u ∈ strs l, u.oneCell' = true := by
  intro u hu
  simp only [strs, List.mem_map] at hu
  obtain ⟨n, _, rfl⟩ := hu
  rfl
theorem ownS_one (w : World) (p : List UInt8) : OwnS w.heap.size (.slice (some ⟨w.heap.size, 0, none⟩) 1 1) [p] (w.alloc (.cells #[.string ⟨p.toArray⟩] 9)) := by
  have h := World.ownsRow_lit (base := w.heap.size) (e := 9) (size := 1) w #[.string ⟨p.toArray⟩] 1 (Nat.le_refl _) (by unfold maxLen; omega) rfl
  exact h

theorem wpList_append_texts {w : World} {ops : Array Oper} {rest : List Oper} {o : Oper} {a : Act} {Q : Exit → Act → World → Prop} (hgd : o.guard = none) (s x : Operand)
    (ho : o.op = .call { callee := .builtin .append, args := #[s, x], argTypes := #[65, 65] })
    (B : Nat) (v : Value) (l m : List (List UInt8)) (ao : Option Addr) (c : Nat) (hs : a.eval s = v) (hown : OwnS B v l w) (hx : a.eval x = .slice ao m.length c) (hsrc : StrsAt ao m w) (hnil : ao = none → c = 0)
    (hlen : l.length + m.length ≤ 8796093022208) (hB : B ≤ w.heap.size)
    (h : ∀ v' w', Hid (OwnS B v' (l ++ m) w') → Hid (Below B w w') → wpList Tryd.prog ops Q rest (a.put o.dst v') w') : wpList Tryd.prog ops Q (o :: rest) a w := by
  obtain ⟨i, hi, hz0, hz1, hz2⟩ := info_parts Tryd.infoString
  cases ao with
  | none =>
    obtain rfl := hnil rfl
    have hm : m = [] := by
      rcases hsrc with h | ⟨b, o', h, _⟩
      · exact h
      · cases h
    subst hm
    refine wpList_append_own_none hgd s x _ ho B 9 i 1 Tryd.underlying65 hi v l.length (strs l) hs hown hx (h _ _ ?_ (Below.refl _ _))
    rw [List.append_nil]
    exact hown
  | some ad =>
    refine wpList_append_own_at w hgd s x _ ho B 9 i (.string ⟨#[]⟩) 1 16 Tryd.underlying65 hi hz0 hz1 hz2 rfl (by decide) v l.length (strs l) hs hown ad m.length c (strs m) hx (by rw [strs_length, Nat.mul_one]) ?_ (strs_one m)
      (by unfold maxLen; omega) (by omega) hB ?_
    · intro j u hj
      rcases hsrc with h0 | ⟨b, o', h0, _, hc⟩
      · subst h0; simp [strs] at hj
      · obtain rfl := Option.some.inj h0
        have hj' : j < m.length := by
          have := (List.getElem?_eq_some_iff.1 hj).1
          rwa [strs_length] at this
        have e : (⟨b, o', none⟩ : Addr).add j = ⟨b, o' + j, none⟩ := by simp only [Addr.add]; split <;> simp_all
        rw [e, hc j hj', ← hj, strs, List.getElem?_map, List.getElem?_eq_getElem hj']
        rfl
    · intro v' w' h2 hg _ _
      refine h v' w' ?_ ((Below.refl B w).grown hg hB (fun k hk => (World.ownsRow.lt hown k hk).1))
      show w'.ownsRow B 9 1 v' (l ++ m).length (strs (l ++ m))
      rw [List.length_append, show strs (l ++ m) = strs l ++ strs m by simp [strs]]
      exact h2

set_option maxHeartbeats 4000000 in
set_option maxRecDepth 100000 in
theorem dev_sum (p : List UInt8) (ao : Option Addr) (c : Nat) (l : List (List UInt8)) (w : World) (hs : StrsAt ao l w) (hnil : ao = none → c = 0) (hl : l.length ≤ 8796093000000) (hb : (listB (p :: l)).length ≤ 140737488350000) (hk : KAt w) :
    Calls Tryd.prog 32 #[.string ⟨p.toArray⟩, .slice ao l.length c] w fun e w' => e = .returned (.agg (nums .u8 (shaN (listB (p :: l)))).toArray) ∧ Below w.heap.size w w' := by
  have HS := Lib.hid hs
  have HK := Lib.hid hk
  have HN := Lib.hid hnil
  have HLB := Lib.hid hb
  clear hs hk hnil hb
  go_enter Tryd.func32, Tryd.ntmps32
  go_upto_region 1 with (fail)
  change Code.wp _ _ _ _ (w.alloc (.cells (nums .u8 (List.replicate 32 0)).toArray 61))
  obtain ⟨wa, hwa⟩ : ∃ x, x = w.alloc (.cells (nums .u8 (List.replicate 32 0)).toArray 61) := ⟨_, rfl⟩
  rw [← hwa]
  have hb : Below w.heap.size w wa := by rw [hwa]; exact (Below.refl _ _).alloc (Nat.le_refl _) _
  have HR := Lib.hid (show Blk w.heap.size 61 .u8 (List.replicate 32 0) wa by rw [hwa]; exact heap_alloc_new w _)
  have HKa := Lib.hid (HK.out.below hb)
  have HSa := Lib.hid (HS.out.below hb)
  have HB := Lib.hid hb
  clear hwa hb HK HS
  have hsza := HB.out.size
  go_wp2_with (at_builtin; refine wpList_append_texts rfl _ _ rfl wa.heap.size _ [p] l ao c rfl (ownS_one wa p) rfl (HSa.out.below ((Below.refl _ _).alloc (Nat.le_refl _) _)) HN.out (by simp; omega) (by simp) ?_)
  intro v w1 hown hb1
  have hb1' : Below wa.heap.size wa w1 := ((Below.refl wa.heap.size wa).alloc (Nat.le_refl _) _).trans hb1.out
  obtain ⟨a1, c1, rfl⟩ := hown.out.form
  have HO := Lib.hid (show OwnS wa.heap.size (.slice a1 (p :: l).length c1) (p :: l) w1 from hown.out)
  have HR1 := Lib.hid (HR.out.below hb1')
  have HK1 := Lib.hid (HKa.out.below hb1')
  have HB1 := Lib.hid (HB.out.trans (hb1'.mono hsza))
  clear hown hb1 hb1' HR HKa HSa
  go_wp2_with fail
  refine (list_any a1 c1 (p :: l) w1 (strsAt_own HO.out) (by simp; omega) (by have := HLB.out; omega)).mono ?_
  rintro e w2 ⟨rfl, hb2⟩
  have HR2 := Lib.hid (HR1.out.below hb2)
  have HK2 := Lib.hid (HK1.out.below hb2)
  have HB2 := Lib.hid (HB1.out.trans (hb2.mono HB1.out.size))
  clear hb2 HR1 HK1 HB1 HO
  go_wp2_with fail
  refine (dev_of (listB (p :: l)) w2 HLB.out HK2.out).mono ?_
  rintro e w3 ⟨rfl, hb3⟩
  have HR3 := Lib.hid (HR2.out.below hb3)
  have HB3 := Lib.hid (HB2.out.trans (hb3.mono HB2.out.size))
  have HI := Lib.hid (show (Tryd.prog.info? 61).map (·.size) = some (shaN (listB (p :: l))).length by rw [shaN_len]; exact Tryd.infoId)
  have HL := Lib.hid (show (List.replicate 32 0).length = (shaN (listB (p :: l))).length by rw [shaN_len, List.length_replicate])
  clear hb3 HR2 HK2 HB2
  go_wp2_with (refine wpList_store_nums rfl 61 _ _ rfl rfl w.heap.size .u8 _ (shaN (listB (p :: l))) 61 rfl rfl HR3.out HI.out HL.out ?_)
  intro w7 hc hb
  have HC7 := Lib.hid (show Blk w.heap.size 61 .u8 (shaN (listB (p :: l))) w7 from hc.out)
  have HB7 := Lib.hid (show Below w.heap.size w w7 from But.toBelow HB3.out hb.out (Nat.le_refl _) HB3.out.size)
  clear hc hb
  go_wp2_with fail
  exact bodyPost_ret (results_nums rfl _ _ w.heap.size .u8 _ 61 _ rfl HC7.out Tryd.underlying61 rfl HI.out) rfl ⟨rfl, HB7.out⟩
set_option maxHeartbeats 4000000 in
set_option maxRecDepth 100000 in
theorem ref_sum (p : List UInt8) (ao : Option Addr) (c : Nat) (l : List (List UInt8)) (w : World) (hs : StrsAt ao l w) (hnil : ao = none → c = 0) (hl : l.length ≤ 8796093000000) (hb : (listB (p :: l)).length ≤ 140737488350000) :
    Calls Tryd.prog 35 #[.string ⟨p.toArray⟩, .slice ao l.length c] w fun e w' => e = .returned (.agg (nums .u8 (shaN (listB (p :: l)))).toArray) ∧ Below w.heap.size w w' := by
  have HS := Lib.hid hs
  have HN := Lib.hid hnil
  have HLB := Lib.hid hb
  clear hs hnil hb
  go_enter Tryd.func35, Tryd.ntmps35
  go_upto_region 1 with (fail)
  change Code.wp _ _ _ _ (w.alloc (.cells (nums .u8 (List.replicate 32 0)).toArray 61))
  obtain ⟨wa, hwa⟩ : ∃ x, x = w.alloc (.cells (nums .u8 (List.replicate 32 0)).toArray 61) := ⟨_, rfl⟩
  rw [← hwa]
  have hb : Below w.heap.size w wa := by rw [hwa]; exact (Below.refl _ _).alloc (Nat.le_refl _) _
  have HR := Lib.hid (show Blk w.heap.size 61 .u8 (List.replicate 32 0) wa by rw [hwa]; exact heap_alloc_new w _)
  have HSa := Lib.hid (HS.out.below hb)
  have HB := Lib.hid hb
  clear hwa hb HS
  have hsza := HB.out.size
  go_wp2_with (at_builtin; refine wpList_append_texts rfl _ _ rfl wa.heap.size _ [p] l ao c rfl (ownS_one wa p) rfl (HSa.out.below ((Below.refl _ _).alloc (Nat.le_refl _) _)) HN.out (by simp; omega) (by simp) ?_)
  intro v w1 hown hb1
  have hb1' : Below wa.heap.size wa w1 := ((Below.refl wa.heap.size wa).alloc (Nat.le_refl _) _).trans hb1.out
  obtain ⟨a1, c1, rfl⟩ := hown.out.form
  have HO := Lib.hid (show OwnS wa.heap.size (.slice a1 (p :: l).length c1) (p :: l) w1 from hown.out)
  have HR1 := Lib.hid (HR.out.below hb1')
  have HB1 := Lib.hid (HB.out.trans (hb1'.mono hsza))
  clear hown hb1 hb1' HR HSa
  go_wp2_with fail
  refine (rlistref_any a1 c1 (p :: l) w1 (strsAt_own HO.out) (by simp; omega) (by have := HLB.out; omega)).mono ?_
  rintro e w2 ⟨rfl, hb2⟩
  have HR2 := Lib.hid (HR1.out.below hb2)
  have HB2 := Lib.hid (HB1.out.trans (hb2.mono HB1.out.size))
  clear hb2 HR1 HB1 HO
  go_wp2_with fail
  refine (of_any (listB (p :: l)) w2 HLB.out).mono ?_
  rintro e w3 ⟨rfl, hb3⟩
  have HR3 := Lib.hid (HR2.out.below hb3)
  have HB3 := Lib.hid (HB2.out.trans (hb3.mono HB2.out.size))
  have HI := Lib.hid (show (Tryd.prog.info? 61).map (·.size) = some (shaN (listB (p :: l))).length by rw [shaN_len]; exact Tryd.infoId)
  have HL := Lib.hid (show (List.replicate 32 0).length = (shaN (listB (p :: l))).length by rw [shaN_len, List.length_replicate])
  clear hb3 HR2 HB2
  go_wp2_with (refine wpList_store_nums rfl 61 _ _ rfl rfl w.heap.size .u8 _ (shaN (listB (p :: l))) 61 rfl rfl HR3.out HI.out HL.out ?_)
  intro w7 hc hb
  have HC7 := Lib.hid (show Blk w.heap.size 61 .u8 (shaN (listB (p :: l))) w7 from hc.out)
  have HB7 := Lib.hid (show Below w.heap.size w w7 from But.toBelow HB3.out hb.out (Nat.le_refl _) HB3.out.size)
  clear hc hb
  go_wp2_with fail
  exact bodyPost_ret (results_nums rfl _ _ w.heap.size .u8 _ 61 _ rfl HC7.out Tryd.underlying61 rfl HI.out) rfl ⟨rfl, HB7.out⟩
end Go.Proofs.YtcjjhddppcmgoaaDoor

/-! Cut, the developers' and the document's: the first sixteen bytes. -/
namespace Go.Proofs.YtcjjhddppcmgoaaDoor
open Go.RowKit

theorem Tryd.infoE : (Tryd.prog.info? 31).map (fun i => i.size) = some 16 := by kernel_rfl
theorem three_new (w : World) (l m n : List Nat) (t u v : TypeId) : Blk w.heap.size t .u8 l (((w.alloc (.cells (nums .u8 l).toArray t)).alloc (.cells (nums .u8 m).toArray u)).alloc (.cells (nums .u8 n).toArray v)) ∧
    Blk (w.heap.size + 1) u .u8 m (((w.alloc (.cells (nums .u8 l).toArray t)).alloc (.cells (nums .u8 m).toArray u)).alloc (.cells (nums .u8 n).toArray v)) ∧
    Blk (w.heap.size + 2) v .u8 n (((w.alloc (.cells (nums .u8 l).toArray t)).alloc (.cells (nums .u8 m).toArray u)).alloc (.cells (nums .u8 n).toArray v)) ∧
    Below w.heap.size w (((w.alloc (.cells (nums .u8 l).toArray t)).alloc (.cells (nums .u8 m).toArray u)).alloc (.cells (nums .u8 n).toArray v)) := by
  have h1 : Blk w.heap.size t .u8 l (w.alloc (.cells (nums .u8 l).toArray t)) := heap_alloc_new w _
  have h2 : Blk (w.heap.size + 1) u .u8 m ((w.alloc (.cells (nums .u8 l).toArray t)).alloc (.cells (nums .u8 m).toArray u)) := by
    have h := heap_alloc_new (w.alloc (.cells (nums .u8 l).toArray t)) (.cells (nums .u8 m).toArray u)
    rw [World.size_alloc] at h
    exact h
  have h3 : Blk (w.heap.size + 2) v .u8 n (((w.alloc (.cells (nums .u8 l).toArray t)).alloc (.cells (nums .u8 m).toArray u)).alloc (.cells (nums .u8 n).toArray v)) := by
    have h := heap_alloc_new ((w.alloc (.cells (nums .u8 l).toArray t)).alloc (.cells (nums .u8 m).toArray u)) (.cells (nums .u8 n).toArray v)
    rw [World.size_alloc, World.size_alloc] at h
    exact h
  exact ⟨(h1.alloc _).alloc _, h2.alloc _, h3, (((Below.refl _ w).alloc (Nat.le_refl _) _).alloc (by simp) _).alloc (by simp; omega) _⟩
/-- The first k of sixteen bytes. -/
def cutP (l : List Nat) (k : Nat) : List Nat := l.take k ++ List.replicate (16 - k) 0
theorem cutP_len {l : List Nat} {k : Nat} (hl : 16 ≤ l.length) (hk : k ≤ 16) : (cutP l k).length = 16 := by
  simp [cutP]
  omega
theorem cutP_full (l : List Nat) : cutP l 16 = l.take 16 := by simp [cutP]
theorem cutP_set {l : List Nat} {k : Nat} (hl : 16 ≤ l.length) (hk : k < 16) : (cutP l k).set k (l.getD k 0) = cutP l (k + 1) := by
  unfold cutP
  have hk2 : (l.take k).length = k := by simp; omega
  rw [List.set_append_right _ _ (by omega), hk2, Nat.sub_self, show 16 - k = (16 - (k + 1)) + 1 by omega, List.replicate_succ, List.set_cons_zero, List.take_succ_eq_append_getElem (by omega), List.append_assoc, List.getD_eq_getElem?_getD, List.getElem?_eq_getElem (by omega)]
  rfl

set_option maxHeartbeats 4000000 in
set_option maxRecDepth 100000 in
theorem ref_cut (l : List Nat) (w : World) (hl : l.length = 32) :
    Calls Tryd.prog 34 #[.agg (nums .u8 l).toArray] w fun e w' => e = .returned (.agg (nums .u8 (l.take 16)).toArray) ∧ Below w.heap.size w w' := by
  have HL := Lib.hid hl
  clear hl
  go_enter Tryd.func34, Tryd.ntmps34
  go_upto_region 2 with (fail)
  change Code.wp _ _ _ _ (((w.alloc (.cells (nums .u8 l).toArray 61)).alloc (.cells (nums .u8 (List.replicate 16 0)).toArray 31)).alloc (.cells (nums .u8 (List.replicate 16 0)).toArray 31))
  obtain ⟨w1, hw1⟩ : ∃ x, x = ((w.alloc (.cells (nums .u8 l).toArray 61)).alloc (.cells (nums .u8 (List.replicate 16 0)).toArray 31)).alloc (.cells (nums .u8 (List.replicate 16 0)).toArray 31) := ⟨_, rfl⟩
  rw [← hw1]
  have h3 : Blk w.heap.size 61 .u8 l w1 ∧ Blk (w.heap.size + 1) 31 .u8 (List.replicate 16 0) w1 ∧ Blk (w.heap.size + 2) 31 .u8 (List.replicate 16 0) w1 ∧ Below w.heap.size w w1 := by
    rw [hw1]
    exact three_new w _ _ _ _ _ _
  obtain ⟨hd, hr, hc, hb⟩ := h3
  have HD := Lib.hid hd
  have HR := Lib.hid hr
  have HC := Lib.hid hc
  have HB := Lib.hid hb
  clear hw1 hd hr hc hb
  go_wp2_with fail
  go_loopw [5] (fun i wq => ∃ k : Nat, k ≤ 16 ∧ i = .int .i64 k ∧ Blk (w.heap.size + 2) 31 .u8 (cutP l k) wq ∧ But (w.heap.size + 2) w1 wq) (fun i _ => 16 - (intOf i).toNat)
  case atStart => exact ⟨0, by omega, rfl, HC.out, But.refl _ _⟩
  case round =>
    clear HC
    obtain ⟨k, hk, rfl, hc, hb⟩ := hrel
    have HC := Lib.hid hc
    have HB1 := Lib.hid hb
    clear hc hb
    by_cases hlk : k < 16
    · have c1 := (HD.out.but HB1.out (by omega)).cell k (by rw [HL.out]; omega)
      have c2 := HC.out.cell k (by rw [cutP_len (by rw [HL.out]; omega) hk]; omega)
      have hf := HC.out.frozen k
      have HS := Lib.hid (HC.out.set k (l.getD k 0))
      rw [cutP_set (by rw [HL.out]; omega) hlk] at HS
      generalize l.getD k 0 = x at c1 HS
      generalize (cutP l k).getD k 0 = y at c2
      have b1 : (k : Int) < 32 := by omega
      have b2 : (k : Int) < 16 := by omega
      go_wp2_with fail
      exact ⟨⟨k + 1, by omega, by go_num, HS.out, HB1.out.setCell _ _⟩, by simp [intOf]; omega⟩
    · obtain rfl : k = 16 := by omega
      rw [show ((16 : Nat) : Int) = 16 from rfl]
      rw [cutP_full] at HC
      have HR1 := Lib.hid (HR.out.but HB1.out (by omega))
      have HBB := Lib.hid (show Below w.heap.size w wr from But.toBelow HB.out HB1.out (by omega) HB.out.size)
      have HI := Lib.hid (show (Tryd.prog.info? 31).map (·.size) = some (l.take 16).length by rw [List.length_take, HL.out]; exact Tryd.infoE)
      have HL2 := Lib.hid (show (List.replicate 16 0).length = (l.take 16).length by rw [List.length_take, HL.out]; rfl)
      go_wp2_with (first | (refine wpList_load_nums rfl 31 _ rfl (w.heap.size + 2) .u8 _ 31 _ rfl HC.out Tryd.underlying31 rfl HI.out ?_) | (refine wpList_store_nums rfl 31 _ _ rfl rfl (w.heap.size + 1) .u8 _ (l.take 16) 31 rfl rfl HR1.out HI.out HL2.out ?_))
      intro w7 hc hb
      have HC7 := Lib.hid (show Blk (w.heap.size + 1) 31 .u8 (l.take 16) w7 from hc.out)
      have HB7 := Lib.hid (show Below w.heap.size w w7 from But.toBelow HBB.out hb.out (by omega) HBB.out.size)
      clear hc hb
      go_wp2_with fail
      exact bodyPost_ret (results_nums rfl _ _ (w.heap.size + 1) .u8 _ 31 _ rfl HC7.out Tryd.underlying31 rfl HI.out) rfl ⟨rfl, HB7.out⟩

set_option maxHeartbeats 4000000 in
set_option maxRecDepth 100000 in
theorem dev_cut (l : List Nat) (w : World) (hl : l.length = 32) :
    Calls Tryd.prog 31 #[.agg (nums .u8 l).toArray] w fun e w' => e = .returned (.agg (nums .u8 (l.take 16)).toArray) ∧ Below w.heap.size w w' := by
  have HL := Lib.hid hl
  clear hl
  go_enter Tryd.func31, Tryd.ntmps31
  go_upto_region 2 with (fail)
  change Code.wp _ _ _ _ (((w.alloc (.cells (nums .u8 l).toArray 61)).alloc (.cells (nums .u8 (List.replicate 16 0)).toArray 31)).alloc (.cells (nums .u8 (List.replicate 16 0)).toArray 31))
  obtain ⟨w1, hw1⟩ : ∃ x, x = ((w.alloc (.cells (nums .u8 l).toArray 61)).alloc (.cells (nums .u8 (List.replicate 16 0)).toArray 31)).alloc (.cells (nums .u8 (List.replicate 16 0)).toArray 31) := ⟨_, rfl⟩
  rw [← hw1]
  have h3 : Blk w.heap.size 61 .u8 l w1 ∧ Blk (w.heap.size + 1) 31 .u8 (List.replicate 16 0) w1 ∧ Blk (w.heap.size + 2) 31 .u8 (List.replicate 16 0) w1 ∧ Below w.heap.size w w1 := by
    rw [hw1]
    exact three_new w _ _ _ _ _ _
  obtain ⟨hd, hr, hc, hb⟩ := h3
  have HD := Lib.hid hd
  have HR := Lib.hid hr
  have HC := Lib.hid hc
  have HB := Lib.hid hb
  clear hw1 hd hr hc hb
  obtain ⟨w2, hw2⟩ : ∃ x, x = w1.drew := ⟨_, rfl⟩
  refine wp_region_still_tail 2 (by kernel_rfl) (by kernel_rfl) ?_
  simp only [List.take_succ_cons, List.take_zero, List.drop_succ_cons, List.drop_zero]
  change wpStill _ _ w1.drew (fun a' => wpList _ _ _ _ a' w1.drew) _ _
  rw [← hw2]
  have HD2 := Lib.hid (show Blk w.heap.size 61 .u8 l w2 by rw [hw2]; exact HD.out)
  have HC2 := Lib.hid (show Blk (w.heap.size + 2) 31 .u8 (List.replicate 16 0) w2 by rw [hw2]; exact HC.out)
  have HR2 := Lib.hid (show Blk (w.heap.size + 1) 31 .u8 (List.replicate 16 0) w2 by rw [hw2]; exact HR.out)
  have HB2 := Lib.hid (show Below w.heap.size w w2 by rw [hw2]; exact HB.out.drew)
  clear hw2 HD HC HR HB
  repeat still_step
  refine wpStill_nil ?_
  refine wpList_copy_splice rfl _ _ 44 44 rfl 5 Tryd.underlying44 (by kernel_rfl) _ _ 16 16 32 32 rfl rfl (w.heap.size + 2) 0 (nums .u8 (List.replicate 16 0)) 31 HC2.out (nums .u8 (l.take 16)) ?hn (fun _ => ⟨rfl, _, rfl, ?hcell⟩) ?hfit (nums_one _ _) (w.heap.size + 2) w2 (Below.refl _ _) (Nat.le_refl _) ?_
  case hn => rw [nums_len, List.length_take, HL.out]; rfl
  case hfit => rw [nums_len, nums_len, List.length_take, HL.out]; decide
  case hcell =>
    intro j v hj
    have hj' : j < 16 := by
      have := (List.getElem?_eq_some_iff.1 hj).1
      rw [nums_len, List.length_take, HL.out] at this
      omega
    have h := HD2.out.cell j (by rw [HL.out]; omega)
    rw [Addr.add_lit, Nat.zero_add, h, ← hj, nums, List.getElem?_map, List.getElem?_take, if_pos hj', List.getD_eq_getElem?_getD, List.getElem?_eq_getElem (by rw [HL.out]; omega)]
    rfl
  intro w3 hc hb
  have hsp : splice (nums .u8 (List.replicate 16 0)) 0 (nums .u8 (l.take 16)) = nums .u8 (l.take 16) := by
    unfold splice
    rw [List.take_zero, List.nil_append, List.drop_of_length_le (by rw [nums_len, nums_len, List.length_take, List.length_replicate, HL.out]; decide), List.append_nil]
  have HC3 := Lib.hid (show Blk (w.heap.size + 2) 31 .u8 (l.take 16) w3 by have h := hc.out; rw [hsp] at h; exact h)
  have HR3 := Lib.hid (show Blk (w.heap.size + 1) 31 .u8 (List.replicate 16 0) w3 from (hb.block _ (by omega)).trans HR2.out)
  have HB3 := Lib.hid (HB2.out.trans (hb.mono (by omega)))
  clear hc hb hsp HC2 HR2 HB2 HD2
  have HI := Lib.hid (show (Tryd.prog.info? 31).map (·.size) = some (l.take 16).length by rw [List.length_take, HL.out]; exact Tryd.infoE)
  have HL2 := Lib.hid (show (List.replicate 16 0).length = (l.take 16).length by rw [List.length_take, HL.out]; rfl)
  go_wp2_with (first | (refine wpList_load_nums rfl 31 _ rfl (w.heap.size + 2) .u8 _ 31 _ rfl HC3.out Tryd.underlying31 rfl HI.out ?_) | (refine wpList_store_nums rfl 31 _ _ rfl rfl (w.heap.size + 1) .u8 _ (l.take 16) 31 rfl rfl HR3.out HI.out HL2.out ?_))
  intro w7 hc hb
  have HC7 := Lib.hid (show Blk (w.heap.size + 1) 31 .u8 (l.take 16) w7 from hc.out)
  have HB7 := Lib.hid (show Below w.heap.size w w7 from But.toBelow HB3.out hb.out (by omega) HB3.out.size)
  clear hc hb
  go_wp2_with fail
  exact bodyPost_ret (results_nums rfl _ _ (w.heap.size + 1) .u8 _ 31 _ rfl HC7.out Tryd.underlying31 rfl HI.out) rfl ⟨rfl, HB7.out⟩
end Go.Proofs.YtcjjhddppcmgoaaDoor
