/-
  Joined: slices.Clone of names; the developers' Take.; The developers' New, Names, Heads, Waits; at nil: Names, Heads, Waits, Past.; The developers' Get. Written by dag/gen/gen_get.py.
-/
import Derived.Carry
import Derived.Lib.SliceRun
import Derived.Test.YtandadfphlandaaGreatDoorJ13
import Derived.Test.YtandadfphlandaaGreatDoorJ20
import Derived.Test.YtandadfphlandaaGreatDoorJ23
import Derived.Test.YtandadfphlandaaGreatDoorJ24
namespace Go.Proofs.YtandadfphlandaaGreatDoor
open Go.RowKit Go.BigFrame
set_option maxHeartbeats 4000000 in
set_option maxRecDepth 100000 in
theorem clone_ids (L : List (List Nat)) (pa : Option Addr) (n pc : Nat) (w : World) (hL : Ids L) (hp : IAt pa L w) (hn : n = L.length) (h63 : n ≤ 100000) :
    Calls Tryz.prog 30 #[.slice pa n pc] w fun e w' => ∃ pa' pc', e = .returned (.slice pa' n pc') ∧ OwnI w.heap.size 25 (.slice pa' n pc') L w' ∧ Below w.heap.size w w' ∧ (pa' = none → pc' = 0) := by
  cases pa with
  | none =>
    have hL0 : L = [] := by
      rcases hp with h | ⟨b, o, h, _⟩
      · exact h
      · cases h
    subst hL0
    obtain rfl : n = 0 := hn
    clear hp hL
    have q34 : ∀ (w : World) (a : Option Addr) (n c n' c' : Nat), (binOp .eql 34 (.slice a n c) (.slice none n' c')).run Tryz.prog w = .ok (.bool a.isNone) w := fun w a n c n' c' => Lib.run_eql_slice_nil w _ _ a n c n' c' rfl
    go_enter Tryz.func30, Tryz.ntmps30
    go_wp2_with fail
    go_ret
    exact ⟨none, 0, rfl, OwnI.nil _ _ _, Below.refl _ _, fun _ => rfl⟩
  | some ad =>
    have HL := Lib.hid hL
    have HP := Lib.hid hp
    have HN := Lib.hid hn
    clear hL hp hn
    have q34 : ∀ (w : World) (a : Option Addr) (n c n' c' : Nat), (binOp .eql 34 (.slice a n c) (.slice none n' c')).run Tryz.prog w = .ok (.bool a.isNone) w := fun w a n c n' c' => Lib.run_eql_slice_nil w _ _ a n c n' c' rfl
    go_enter Tryz.func30, Tryz.ntmps30
    have b1 : Below w.heap.size w (w.alloc (.cells #[] 25)) := (Below.refl _ _).alloc (Nat.le_refl _) _
    have o1 : OwnI w.heap.size 25 (.slice (some ⟨w.heap.size, 0, none⟩) 0 0) [] (w.alloc (.cells #[] 25)) := World.ownsRow_lit w #[] 0 (Nat.le_refl _) (by unfold maxLen; omega) rfl
    have HO := Lib.hid o1
    have HPA := Lib.hid (HP.out.below b1)
    have HB := Lib.hid b1
    clear b1 o1
    go_wp2_with (refine wpList_append_idsv rfl _ _ 34 25 rfl w.heap.size (.agg (nums .u8 (List.replicate 32 0)).toArray) rfl Tryz.underlying34 Tryz.infoI32 (.slice (some ⟨w.heap.size, 0, none⟩) 0 0) [] L HL.out (some ad) n pc HN.out rfl HO.out rfl HPA.out (fun h => by cases h) (by simp only [List.length_nil]; rw [← HN.out]; omega) HB.out.size ?_)
    intro v' w' ho hg hd
    have ho1 := ho.out
    obtain ⟨a', c', rfl⟩ := ho1.form
    rw [← HN.out] at ho1
    have hb' : Below w.heap.size w w' := HB.out.grown hg.out HB.out.size (fun g hg => by
      obtain rfl : w.heap.size = g := by injection hg
      exact Nat.le_refl _)
    have HF := Lib.hid (And.intro ho1 (And.intro hb' (show a' = none → c' = 0 from fun e => by
      subst e
      rcases ho1.2 with ⟨h1, _⟩ | ⟨g, cap, cur, h1, _⟩
      · injection h1
      · cases h1)))
    rw [← HN.out]
    clear ho1 hb' ho hg hd
    go_wp2_with fail
    go_ret
    exact ⟨a', c', rfl, HF.out⟩
def DevTake (X : Nat → Prop) (B : Bs) (T : Ents) (r : List (List Nat) × Int × DagN) (w : World) (e : Ending) (w' : World) : Prop :=
  ∃ v X' T' hs' M', e = .returned (.tuple #[v, .int .i64 r.2.1]) ∧ OwnI w.heap.size 25 v r.1 w' ∧ SetAt X' B T' r.2.2 hs' M' w' ∧ DInv r.2.2 hs' M' [] [] ∧ Tame r.2.2 ∧ Turn (SetO B T) (SetO B T') w w' ∧ (∀ b, v.ownBlock = some b → ¬ SetO B T' b) ∧
    (∀ b, X' b → X b) ∧ (∀ b, b < w.heap.size → X b → X' b) ∧ (∀ b, w'.heap.size ≤ b → X' b)
theorem DevTake.stay {X : Nat → Prop} {B : Bs} {T : Ents} {s : DagN} {hs : List (List Nat)} {M : Bh} {w w' : World} {r : List (List Nat) × Int × DagN} (h : SetAt X B T s hs M w) (hX : ∀ b, w.heap.size ≤ b → X b) (hD : DInv s hs M [] []) (ht : Tame s) (k : Below w.heap.size w w') (c : Int) (hr : r = ([], c, s)) : DevTake X B T r w (.returned (.tuple #[.slice none 0 0, .int .i64 c])) w' := by
  subst hr
  exact ⟨_, X, T, hs, M, rfl, OwnI.nil _ _ _, h.below k, hD, ht, Turn.of k, (fun b hb => by cases hb), fun _ h => h, fun _ _ h => h, fun b hb => hX b (Nat.le_trans k.size hb)⟩
set_option maxHeartbeats 20000000 in
set_option maxRecDepth 100000 in
theorem dev_take (X : Nat → Prop) (B : Bs) (T : Ents) (s : DagN) (hs : List (List Nat)) (M : Bh) (x : OpN) (pa : Option Addr) (pc : Nat) (w : World) (h : SetAt X B T s hs M w) (hX : ∀ b, w.heap.size ≤ b → X b) (hD : DInv s hs M [] []) (ht : Tame s) (hx : x.Fit) (hpa : IAt pa x.preds w) (hk : KAt w) (hN : s.ops.length + s.wait.length ≤ 999) :
    Calls Tryz.prog 10 #[.pointer (some ⟨B.gs, 0, none⟩), .agg (opV x pa pc)] w fun e w' => DevTake X B T (takeN s x) w e w' := by
  have HX0 := Lib.hid hX
  have HS0 := Lib.hid h
  have HD := Lib.hid hD
  have HTM := Lib.hid ht
  have HXF := Lib.hid hx
  have x1 : Cells w.heap.size 38 (opV x pa pc) (w.alloc (.cells (opV x pa pc) 38)) := heap_alloc_new w _
  have b1 : Below w.heap.size w (w.alloc (.cells (opV x pa pc) 38)) := (Below.refl _ _).alloc (Nat.le_refl _) _
  have HB := Lib.hid b1
  have HC := Lib.hid x1
  have HIA := Lib.hid (hpa.below b1)
  have HK := Lib.hid (hk.below b1)
  have HSV := Lib.hid (show (Tryz.prog.info? 38).map (·.size) = some (opV x pa pc).size by rw [opV_size hx.d.ref.1]; exact Tryz.sizeO)
  clear h hX hD ht hx hpa hk x1 b1
  go_enter Tryz.func10, Tryz.ntmps10
  go_upto_region 1 with (fail)
  obtain ⟨w1, hw1⟩ : ∃ q, q = w.alloc (.cells (opV x pa pc) 38) := ⟨_, rfl⟩
  rw [← hw1] at HB HC HIA HK ⊢
  obtain ⟨g3, hg3⟩ : ∃ g, w.heap.size = g := ⟨_, rfl⟩
  have HG3 := Lib.hid hg3
  rw [hg3] at HC ⊢
  clear hw1 hg3
  have HGD := Lib.hid (dev_goodOp x pa pc w1 HXF.out.ok HIA.out (by have := HXF.out.d.key; omega) (by have := HXF.out.d.val; omega) (by have := HXF.out.many; omega))
  by_cases hg : GoodO x
  · rw [decide_eq_true hg] at HGD
    have HGO := Lib.hid hg
    clear hg
    have hnn : IdOk (nameN x) := ⟨nameN_len x, nameN_lt x⟩
    have HTK := Shut.mk (show takeN s x = if nameN x ∈ s.names ∨ nameN x ∈ s.waits then ([], 9, s) else if wholeN s.names x = false then ([], 0, ⟨s.ops, s.wait ++ [x]⟩) else if x.depth ≠ depthN s.ops x then ([], 10, s) else (nameN x :: (settleN s.wait.length ⟨s.ops ++ [x], s.wait⟩).1, 0, (settleN s.wait.length ⟨s.ops ++ [x], s.wait⟩).2) by rw [takeN, if_neg (fun h => h HGO.out)])
    have HNM := Lib.hid (fun w2 (b : Below w1.heap.size w1 w2) => dev_name9 x pa pc w2 HXF.out (HIA.out.below b) (HK.out.below b))
    obtain ⟨n, hn⟩ : ∃ n, nameN x = n := ⟨_, rfl⟩
    rw [hn] at hnn HTK HNM
    have HN := Lib.hid hnn
    have HNE := Shut.mk hn
    have HS1 := Lib.hid (show (Tryz.prog.info? 25).map (·.size) = some n.length by rw [hnn.1]; exact Tryz.sizeI)
    have HL2 := Lib.hid (show (List.replicate 32 0).length = n.length by rw [hnn.1]; rfl)
    clear hn hnn
    go_wp2_with (first
      | (refine wpList_load_cells rfl 38 (.tmp 3) rfl g3 (opV x pa pc) 38 _ rfl HC.out Tryz.underlying38 rfl HSV.out ?_)
      | (refine HGD.out.mono ?_; rintro e w2 ⟨rfl, hb2⟩
         have HB2 := Lib.hid hb2
         have HC2 := Lib.hid (HC.out.below hb2)
         clear hb2)
      | (refine wpList_load_cells rfl 38 (.tmp 3) rfl g3 (opV x pa pc) 38 _ rfl HC2.out Tryz.underlying38 rfl HSV.out ?_)
      | (refine (HNM.out w2 HB2.out).mono ?_; rintro e w3 ⟨rfl, hb3⟩
         have HB3 := Lib.hid (HB2.out.trans (hb3.mono HB2.out.size))
         have HC3 := Lib.hid (HC2.out.below hb3)
         clear hb3 HC2 HB2)
      | (refine wpList_store_nums rfl 25 _ _ rfl rfl w3.heap.size .u8 (List.replicate 32 0) n 25 rfl rfl (heap_alloc_new w3 _) HS1.out HL2.out ?_))
    intro w4 hc4 hb4
    have HB4 := Lib.hid (HB3.out.trans ((show Below w3.heap.size w3 w4 from But.toBelow ((Below.refl _ _).alloc (Nat.le_refl _) _) hb4.out (Nat.le_refl _) (by rw [World.size_alloc]; exact Nat.le_succ _)).mono HB3.out.size))
    obtain ⟨g6, hg6⟩ : ∃ g, w3.heap.size = g := ⟨_, rfl⟩
    have HG6 := Lib.hid (show w1.heap.size ≤ g6 from hg6 ▸ HB3.out.size)
    have HC6 := Lib.hid (show Blk g6 25 .u8 n w4 from hg6 ▸ hc4.out)
    rw [hg6]
    have HBW := Lib.hid (HB.out.trans (HB4.out.mono HB.out.size))
    have HS4 := Lib.hid (HS0.out.below HBW.out)
    have HC4 := Lib.hid (HC.out.below HB4.out)
    have HIA4 := Lib.hid (HIA.out.below HB4.out)
    have HGL := Lib.hid (show g3 < w1.heap.size from HC.out.lt)
    clear hc4 hb4 hg6 HC3 HB3 HC HIA HK HNM HGD
    have HKN := Lib.hid (dev_knows X B T s hs M n w4 HS4.out HN.out (fun y hy => (HTM.out.ops y hy).d.ref.1) (fun y hy => (HTM.out.wait y hy).d.ref.1))
    by_cases hkn : n ∈ s.names ∨ n ∈ s.waits
    · have hz : (decide (n ∈ s.names) || decide (n ∈ s.waits)) = true := by simpa using hkn
      rw [hz] at HKN
      have htk := HTK.out
      rw [if_pos hkn] at htk
      have HTK2 := Shut.mk htk
      clear hkn hz htk
      go_wp2_with (first
        | (refine wpList_load_nums rfl 25 (.tmp 6) rfl g6 .u8 n 25 _ rfl HC6.out Tryz.underlying25 rfl HS1.out ?_)
        | (refine HKN.out.mono ?_; rintro e w5 ⟨rfl, hb5⟩))
      go_ret2
      exact DevTake.stay HS0.out HX0.out HD.out HTM.out (HBW.out.trans (hb5.mono HBW.out.size)) 9 HTK2.out
    · have hz : (decide (n ∈ s.names) || decide (n ∈ s.waits)) = false := by simpa using hkn
      rw [hz] at HKN
      have htk := HTK.out
      rw [if_neg hkn] at htk
      have HTK2 := Shut.mk htk
      have HNN := Lib.hid (show n ∉ s.names from fun e => hkn (.inl e))
      have HNW := Lib.hid (show n ∉ s.waits from fun e => hkn (.inr e))
      clear hkn hz htk HTK
      have HFR := Lib.hid (show ∀ p, p ∈ x.preds → IdOk p from HXF.out.preds)
      have HGW := Lib.hid (show w.heap.size ≤ g3 from HG3.out ▸ Nat.le_refl _)
      have HG36 := Lib.hid (show g6 ≠ g3 from fun e => by have h1 := HGL.out; have h2 := HG6.out; omega)
      have HSV2 := Lib.hid (fun (pa' : Option Addr) (pc' : Nat) => show (Tryz.prog.info? 38).map (·.size) = some (opV x pa' pc').size by rw [opV_size HXF.out.d.ref.1]; exact Tryz.sizeO)
      go_wp2_with (first
        | (refine wpList_load_nums rfl 25 (.tmp 6) rfl g6 .u8 n 25 _ rfl HC6.out Tryz.underlying25 rfl HS1.out ?_)
        | (refine HKN.out.mono ?_; rintro e w5 ⟨rfl, hb5⟩
           have HB5 := Lib.hid hb5
           have HC5 := Lib.hid (HC4.out.below hb5)
           have c37 := (op_cells HXF.out.d.ref.1 HC5.out).2.2.2
           have HCL := Lib.hid (clone_ids x.preds pa x.preds.length pc w5 HFR.out (HIA4.out.below hb5) rfl (by have := HXF.out.many; omega))
           clear hb5)
        | (refine HCL.out.mono ?_; rintro e w6 ⟨pa', pc', rfl, ho6, hb6, hn6⟩
           have HO6 := Lib.hid ho6
           have HB65 := Lib.hid hb6
           have HB6 := Lib.hid (HB5.out.trans (hb6.mono HB5.out.size))
           have HN6 := Lib.hid hn6
           have HC66 := Lib.hid (HC5.out.below hb6)
           have c37' := (op_cells HXF.out.d.ref.1 HC66.out).2.2.2
           have f37 := HC66.out.frozen 37
           have hk7 : But g3 w6 (w6.setCell ⟨g3, 37, none⟩ (.slice pa' x.preds.length pc')) := (But.refl g3 w6).setCell 37 _
           have HK7 := Lib.hid hk7
           have HC67 := Lib.hid ((HC6.out.below HB6.out).but hk7 HG36.out)
           have HC7 := Lib.hid (show Cells g3 38 (opV x pa' pc') (w6.setCell ⟨g3, 37, none⟩ (.slice pa' x.preds.length pc')) from by
             have h := HC66.out.set 37 (.slice pa' x.preds.length pc')
             rw [show (opV x pa pc).setIfInBounds 37 (.slice pa' x.preds.length pc') = opV x pa' pc' from opV_preds (d := x.d) (a := x.author) (b := x.depth) (L := x.preds) (M := x.preds) HXF.out.d.ref.1 rfl pa pa' pc pc'] at h
             exact h)
           clear ho6 hb6 hn6 hk7 HCL HC5 c37)
        | (refine wpList_load_nums rfl 25 (.tmp 6) rfl g6 .u8 n 25 _ rfl HC67.out Tryz.underlying25 rfl HS1.out ?_)
        | (refine wpList_load_cells rfl 38 (.tmp 3) rfl g3 (opV x pa' pc') 38 _ rfl HC7.out Tryz.underlying38 rfl (HSV2.out pa' pc') ?_))
      obtain ⟨w7, hw7⟩ : ∃ z, z = w6.setCell ⟨g3, 37, none⟩ (.slice pa' x.preds.length pc') := ⟨_, rfl⟩
      rw [← hw7] at HK7 HC67 HC7 ⊢
      clear hw7 c37' f37
      have HB7 := Lib.hid (show Below w.heap.size w w7 from But.toBelow (HBW.out.trans (HB6.out.mono HBW.out.size)) HK7.out HGW.out (HBW.out.trans (HB6.out.mono HBW.out.size)).size)
      have HFB := Lib.hid (show ∀ a, pa' = some a → w5.heap.size ≤ a.block ∧ a.block < w6.heap.size from fun a ha => World.ownsRow.lt HO6.out a.block (by subst ha; rfl))
      obtain ⟨Y, hY⟩ : ∃ Y : Nat → Prop, Y = fun b => X b ∧ ∀ a, pa' = some a → b ≠ a.block := ⟨_, rfl⟩
      have HWS := Lib.hid (show w.heap.size ≤ w5.heap.size from (HBW.out.trans (HB5.out.mono HBW.out.size)).size)
      have HY1 := Lib.hid (show ∀ b, Y b → X b from fun b h => by rw [hY] at h; exact h.1)
      have HY2 := Lib.hid (show ∀ b, b < w.heap.size → X b → Y b from fun b hb h => by
        rw [hY]
        exact ⟨h, fun a ha e => by have := (HFB.out a ha).1; have := HWS.out; omega⟩)
      have HY3 := Lib.hid (show ∀ b, w7.heap.size ≤ b → Y b from fun b hb => by
        rw [hY]
        exact ⟨HX0.out b (Nat.le_trans HB7.out.size hb), fun a ha e => by have := (HFB.out a ha).2; have := HK7.out.size; omega⟩)
      have HOF := Lib.hid (show OffX Y pa' x.preds from fun a ha _ h => by rw [hY] at h; exact h.2 a ha rfl)
      have HS7 := Lib.hid ((HS0.out.below HB7.out).mono HY1.out (fun b hb => HY2.out b (SetO.x HS0.out hb).2 (SetO.x HS0.out hb).1))
      have HI7 := Lib.hid (show IAt pa' x.preds w7 from OwnI.at (HO6.out.but HK7.out (fun g hg e => by
        have h1 := (World.ownsRow.lt HO6.out g hg).1
        have h2 := HGL.out; have h3 := HB4.out.size; have h4 := HB5.out.size; omega)) HFR.out)
      have HE7 := Lib.hid (show EntsO Y (s.wait ++ [x]) (putE T.w n (.agg (opV x pa' pc'))) w7 from by
        have h := HS7.out.wait.push x pa' pc' HI7.out HOF.out
        rw [HNE.out] at h
        rw [putE_new (by rw [HS7.out.wait.keys]; exact HNW.out)]
        exact h)
      have HLB := Lib.hid (show ∀ q, (atB M q).length ≤ 100000 from fun q => by have h1 := (HD.out.lenB q).1; have h2 := HTM.out.many; omega)
      have HRO := Lib.hid (show ∀ y ∈ s.ops, y.d.ref.length = 32 from fun y hy => (HTM.out.ops y hy).d.ref.1)
      have HWT := Lib.hid (dev_wait Y B T s hs M n x pa' pc' (s.wait ++ [x]) w7 HS7.out HY3.out HN.out HXF.out.d.ref.1 HFR.out HI7.out (by have := HXF.out.many; omega) HE7.out HRO.out HLB.out)
      clear hY HO6 HB65 HN6 HC66 HE7 HC6 HKN HB5 HB6 HK7
      by_cases hw : wholeN s.names x = true
      · have htk := HTK2.out
        rw [if_neg (by rw [hw]; decide)] at htk
        have HTK3 := Shut.mk htk
        have HW := Lib.hid hw
        have HFT := Lib.hid (fun w8 (b : Below w7.heap.size w7 w8) => dev_fits Y B T s hs M x pa' pc' w8 (HS7.out.below b) HXF.out.d.ref.1 HFR.out (HI7.out.below b) (by have := HXF.out.many; omega) HRO.out HTM.out.shallow (by have := HTM.out.many; omega))
        clear hw htk HTK2
        by_cases hdp : x.depth = depthN s.ops x
        · have htk := HTK3.out
          rw [if_neg (fun h => h hdp)] at htk
          have HTK4 := Shut.mk htk
          rw [decide_eq_true hdp] at HFT
          have HAD := Lib.hid (fun w9 (b : Below w7.heap.size w7 w9) => dev_admit Y B T s hs M n x pa' pc' w9 (HS7.out.below b) (fun c hc => HY3.out c (Nat.le_trans b.size hc)) HNE.out HXF.out (HI7.out.below b) HOF.out HD.out HNN.out HNW.out HW.out hdp HTM.out hN)
          clear hdp htk HTK3
          obtain ⟨RR, hRR⟩ : ∃ RR, settleN s.wait.length ⟨s.ops ++ [x], s.wait⟩ = RR := ⟨_, rfl⟩
          rw [hRR] at HAD HTK4
          clear hRR
          refine HWT.out.mono ?_
          rintro e w8 hwp
          obtain ⟨rfl, hb8⟩ := wait_yes hwp HW.out
          have HC78 := Lib.hid (HC7.out.below hb8)
          have HC68 := Lib.hid (HC67.out.below hb8)
          have HB8 := Lib.hid hb8
          clear hwp hb8 HC7 HC67 HWT
          go_wp2_with (first
            | (refine wpList_load_cells rfl 38 (.tmp 3) rfl g3 (opV x pa' pc') 38 _ rfl HC78.out Tryz.underlying38 rfl (HSV2.out pa' pc') ?_)
            | (refine (HFT.out w8 HB8.out).mono ?_; rintro e w9 ⟨rfl, hb9⟩
               have HB9 := Lib.hid (HB8.out.trans (hb9.mono HB8.out.size))
               have HC79 := Lib.hid (HC78.out.below hb9)
               have HC69 := Lib.hid (HC68.out.below hb9)
               clear hb9 HC78 HC68)
            | (refine wpList_load_nums rfl 25 (.tmp 6) rfl g6 .u8 n 25 _ rfl HC69.out Tryz.underlying25 rfl HS1.out ?_)
            | (refine wpList_load_cells rfl 38 (.tmp 3) rfl g3 (opV x pa' pc') 38 _ rfl HC79.out Tryz.underlying38 rfl (HSV2.out pa' pc') ?_)
            | (refine (HAD.out w9 HB9.out).mono ?_; rintro e wa ⟨v, T', hs', M', rfl, hoa, hsa, hda, hta, hna, htma⟩))
          go_ret2
          have HB79 := HB7.out.trans (HB9.out.mono HB7.out.size)
          exact ⟨v, Y, T', hs', M', by rw [HTK4.out]; rfl, by rw [HTK4.out]; exact hoa.mono HB79.size, by rw [HTK4.out]; exact hsa, by rw [HTK4.out]; exact hda, by rw [HTK4.out]; exact htma, (Turn.of HB79).trans hta, hna, HY1.out, HY2.out, fun b hb => HY3.out b (Nat.le_trans HB9.out.size (Nat.le_trans hta.only.size hb))⟩
        · have htk := HTK3.out
          rw [if_pos hdp] at htk
          have HTK4 := Shut.mk htk
          rw [decide_eq_false hdp] at HFT
          clear hdp htk HTK3
          refine HWT.out.mono ?_
          rintro e w8 hwp
          obtain ⟨rfl, hb8⟩ := wait_yes hwp HW.out
          have HC78 := Lib.hid (HC7.out.below hb8)
          have HB8 := Lib.hid hb8
          clear hwp hb8 HC7 HC67 HWT
          go_wp2_with (first
            | (refine wpList_load_cells rfl 38 (.tmp 3) rfl g3 (opV x pa' pc') 38 _ rfl HC78.out Tryz.underlying38 rfl (HSV2.out pa' pc') ?_)
            | (refine (HFT.out w8 HB8.out).mono ?_; rintro e w9 ⟨rfl, hb9⟩))
          go_ret2
          exact DevTake.stay HS0.out HX0.out HD.out HTM.out (HB7.out.trans ((HB8.out.trans (hb9.mono HB8.out.size)).mono HB7.out.size)) 10 HTK4.out
      · have hw' : wholeN s.names x = false := by simpa using hw
        have htk := HTK2.out
        rw [if_pos hw'] at htk
        have HTK3 := Shut.mk htk
        have HW := Lib.hid hw'
        clear hw hw' htk HTK2
        refine HWT.out.mono ?_
        rintro e w8 hwp
        obtain ⟨rfl, p, v, hp1, hp2, hs8, ht8⟩ := wait_no hwp HW.out
        have HDN := Lib.hid (HD.out.come (o := x) (by rw [HNE.out]; exact HNN.out) (by rw [HNE.out]; exact HNW.out) hp1 hp2)
        rw [HNE.out] at HDN
        clear hwp HWT
        go_wp2_with fail
        go_ret2
        have htm' : Tame ⟨s.ops, s.wait ++ [x]⟩ := by
          refine ⟨HTM.out.ops, fun y hy => ?_, HTM.out.shallow, ?_⟩
          · rcases List.mem_append.1 hy with h | h
            · exact HTM.out.wait y h
            · rw [List.mem_singleton.1 h]; exact HXF.out
          · show s.ops.length + (s.wait ++ [x]).length ≤ 1000
            rw [List.length_append]; simp only [List.length_singleton]; omega
        exact ⟨_, Y, _, hs, _, by rw [HTK3.out]; rfl, by rw [HTK3.out]; exact OwnI.nil _ _ _, by rw [HTK3.out]; exact hs8, by rw [HTK3.out]; exact HDN.out, by rw [HTK3.out]; exact htm', (Turn.of HB7.out).trans ht8, (fun b hb => by cases hb), HY1.out, HY2.out, fun b hb => HY3.out b (Nat.le_trans ht8.only.size hb)⟩
  · rw [decide_eq_false hg] at HGD
    have HR := Shut.mk (show takeN s x = ([], 1, s) by rw [takeN, if_pos hg])
    clear hg
    go_wp2_with (first
      | (refine wpList_load_cells rfl 38 (.tmp 3) rfl g3 (opV x pa pc) 38 _ rfl HC.out Tryz.underlying38 rfl HSV.out ?_)
      | (refine HGD.out.mono ?_; rintro e w2 ⟨rfl, hb2⟩))
    go_ret2
    exact DevTake.stay HS0.out HX0.out HD.out HTM.out (HB.out.trans (hb2.mono HB.out.size)) 1 HR.out
end Go.Proofs.YtandadfphlandaaGreatDoor
namespace Go.Proofs.YtandadfphlandaaGreatDoor
open Go.RowKit Go.BigFrame
theorem heads_rise {s : DagN} {hs : List (List Nat)} {M : Bh} {R F : List (List Nat)} (h : DInv s hs M R F) (hl : ∀ x ∈ hs, x.length = 32) : risingN hs = headsN s := by
  have hp := heads_perm h
  have hl2 : ∀ x ∈ (s.names.filter fun n => !(s.ops.any fun o => decide (n ∈ o.preds))), x.length = 32 := fun x hx => hl x (hp.mem_iff.2 hx)
  have hd2 : (s.names.filter fun n => !(s.ops.any fun o => decide (n ∈ o.preds))).Nodup := hp.nodup_iff.1 h.hnodup
  exact rising_of (risingN_rise hl h.hnodup) ((risingN_perm hs).trans hp) hl2 hd2
theorem headE_keys (hs : List (List Nat)) : (headE hs).map (·.1) = hs := by simp [headE, List.map_map, Function.comp_def]
set_option maxHeartbeats 2000000 in
theorem dev_names {X : Nat → Prop} {B : Bs} {T : Ents} {s : DagN} {hs : List (List Nat)} {M : Bh} {w : World} (h : SetAt X B T s hs M w) (hb : s.ops.length ≤ 100000) :
    Calls Tryz.prog 19 #[.pointer (some ⟨B.gs, 0, none⟩)] w fun e w' => ∃ v, e = .returned v ∧ OwnI w.heap.size 25 v (risingN s.names) w' ∧ Below w.heap.size w w' := by
  have hln : T.p.length ≤ 100000 := by rw [h.ops.1]; exact hb
  have HE := Shut.mk (show risingN (T.p.map (·.1)) = risingN s.names by rw [h.ops.keys]; rfl)
  have HA := Lib.hid (ascending_o B.p _ w h.pm hln)
  have c0 := h.cell.1
  clear h hb hln
  go_enter Tryz.func19, Tryz.ntmps19
  go_wp2_with (refine HA.out.mono ?_; rintro e w3 ⟨v, rfl, ho, hb3⟩)
  go_ret
  exact ⟨v, rfl, by rw [← HE.out]; exact ho, hb3⟩
theorem dev_names_nil (w : World) : Calls Tryz.prog 19 #[.pointer none] w fun e w' => e = .returned (.slice none 0 0) ∧ w' = w := by
  go_enter Tryz.func19, Tryz.ntmps19
  go_wp2_with fail
  go_ret
  exact ⟨rfl, rfl⟩
set_option maxHeartbeats 2000000 in
theorem dev_heads {X : Nat → Prop} {B : Bs} {T : Ents} {s : DagN} {hs : List (List Nat)} {M : Bh} {w : World} (h : SetAt X B T s hs M w) (hD : DInv s hs M [] []) (hb : s.ops.length ≤ 100000) :
    Calls Tryz.prog 20 #[.pointer (some ⟨B.gs, 0, none⟩)] w fun e w' => ∃ v, e = .returned v ∧ OwnI w.heap.size 25 v (headsN s) w' ∧ Below w.heap.size w w' := by
  have hln : (headE hs).length ≤ 100000 := by
    rw [headE, List.length_map, (heads_perm hD).length_eq]
    exact Nat.le_trans (List.length_filter_le _ _) (by rw [DagN.names, List.length_map]; exact hb)
  have HE := Shut.mk (show risingN ((headE hs).map (·.1)) = headsN s by rw [headE_keys]; exact heads_rise hD (fun x hx => by
    have h1 := h.hm.ok (x, .agg #[]) (List.mem_map.2 ⟨x, hx, rfl⟩)
    exact h1.1))
  have HA := Lib.hid (ascending_u B.h _ w h.hm hln)
  have c0 := h.cell.2.2.1
  clear h hb hln hD
  go_enter Tryz.func20, Tryz.ntmps20
  go_wp2_with (refine HA.out.mono ?_; rintro e w3 ⟨v, rfl, ho, hb3⟩)
  go_ret
  exact ⟨v, rfl, by rw [← HE.out]; exact ho, hb3⟩
theorem dev_heads_nil (w : World) : Calls Tryz.prog 20 #[.pointer none] w fun e w' => e = .returned (.slice none 0 0) ∧ w' = w := by
  go_enter Tryz.func20, Tryz.ntmps20
  go_wp2_with fail
  go_ret
  exact ⟨rfl, rfl⟩
set_option maxHeartbeats 2000000 in
theorem dev_waits {X : Nat → Prop} {B : Bs} {T : Ents} {s : DagN} {hs : List (List Nat)} {M : Bh} {w : World} (h : SetAt X B T s hs M w) (hb : s.wait.length ≤ 100000) :
    Calls Tryz.prog 21 #[.pointer (some ⟨B.gs, 0, none⟩)] w fun e w' => ∃ v, e = .returned v ∧ OwnI w.heap.size 25 v (risingN s.waits) w' ∧ Below w.heap.size w w' := by
  have hln : T.w.length ≤ 100000 := by rw [h.wait.1]; exact hb
  have HE := Shut.mk (show risingN (T.w.map (·.1)) = risingN s.waits by rw [h.wait.keys]; rfl)
  have HA := Lib.hid (ascending_o B.w _ w h.wm hln)
  have c0 := h.cell.2.1
  clear h hb hln
  go_enter Tryz.func21, Tryz.ntmps21
  go_wp2_with (refine HA.out.mono ?_; rintro e w3 ⟨v, rfl, ho, hb3⟩)
  go_ret
  exact ⟨v, rfl, by rw [← HE.out]; exact ho, hb3⟩
theorem dev_waits_nil (w : World) : Calls Tryz.prog 21 #[.pointer none] w fun e w' => e = .returned (.slice none 0 0) ∧ w' = w := by
  go_enter Tryz.func21, Tryz.ntmps21
  go_wp2_with fail
  go_ret
  exact ⟨rfl, rfl⟩
theorem dev_past_nil (n : List Nat) (w : World) : Calls Tryz.prog 22 #[.pointer none, .agg (nums .u8 n).toArray] w fun e w' => e = .returned (.slice none 0 0) ∧ Below w.heap.size w w' := by
  go_enter Tryz.func22, Tryz.ntmps22
  go_wp2_with fail
  go_ret
  exact ⟨rfl, (Below.refl _ _).alloc (Nat.le_refl _) _⟩
set_option maxHeartbeats 2000000 in
theorem dev_new (X : Nat → Prop) (w : World) (hX : ∀ b, w.heap.size ≤ b → X b) :
    Calls Tryz.prog 9 #[] w fun e w' => ∃ B, e = .returned (.pointer (some ⟨B.gs, 0, none⟩)) ∧ SetAt X B ⟨[], [], []⟩ DagN.new [] [] w' ∧ Below w.heap.size w w' := by
  have hmm := @run_makeMap Tryz.prog
  go_enter Tryz.func9, Tryz.ntmps9
  go_wp2_with fail
  go_ret
  have b1 : Below w.heap.size w (w.alloc (.map #[] 0)) := (Below.refl _ _).alloc (Nat.le_refl _) _
  have m1 := mapN_new w
  have s1 : (w.alloc (.map #[] 0)).heap.size = w.heap.size + 1 := World.size_alloc _ _
  obtain ⟨w1, hw1⟩ : ∃ z, z = w.alloc (.map #[] 0) := ⟨_, rfl⟩
  rw [← hw1] at b1 m1 s1 ⊢
  have b2 : Below w1.heap.size w1 (w1.alloc (.map #[] 0)) := (Below.refl _ _).alloc (Nat.le_refl _) _
  have m2 := mapN_new w1
  have s2 : (w1.alloc (.map #[] 0)).heap.size = w1.heap.size + 1 := World.size_alloc _ _
  obtain ⟨w2, hw2⟩ : ∃ z, z = w1.alloc (.map #[] 0) := ⟨_, rfl⟩
  rw [← hw2] at b2 m2 s2 ⊢
  have b3 : Below w2.heap.size w2 (w2.alloc (.map #[] 0)) := (Below.refl _ _).alloc (Nat.le_refl _) _
  have m3 := mapN_new w2
  have s3 : (w2.alloc (.map #[] 0)).heap.size = w2.heap.size + 1 := World.size_alloc _ _
  obtain ⟨w3, hw3⟩ : ∃ z, z = w2.alloc (.map #[] 0) := ⟨_, rfl⟩
  rw [← hw3] at b3 m3 s3 ⊢
  have b4 : Below w3.heap.size w3 (w3.alloc (.map #[] 0)) := (Below.refl _ _).alloc (Nat.le_refl _) _
  have m4 := mapN_new w3
  have s4 : (w3.alloc (.map #[] 0)).heap.size = w3.heap.size + 1 := World.size_alloc _ _
  obtain ⟨w4, hw4⟩ : ∃ z, z = w3.alloc (.map #[] 0) := ⟨_, rfl⟩
  rw [← hw4] at b4 m4 s4 ⊢
  obtain ⟨cs, hcs⟩ : ∃ cs : Array Value, cs = #[.map (some w.heap.size), .map (some (w.heap.size + 1)), .map (some (w.heap.size + 1 + 1)), .map (some (w.heap.size + 1 + 1 + 1))] := ⟨_, rfl⟩
  rw [← hcs]
  have b5 : Below w4.heap.size w4 (w4.alloc (.cells cs 65)) := (Below.refl _ _).alloc (Nat.le_refl _) _
  have c5 : Cells w4.heap.size 65 cs (w4.alloc (.cells cs 65)) := heap_alloc_new w4 _
  obtain ⟨w5, hw5⟩ : ∃ z, z = w4.alloc (.cells cs 65) := ⟨_, rfl⟩
  rw [← hw5] at b5 c5 ⊢
  rw [s1] at m2; rw [s2, s1] at m3; rw [s3, s2, s1] at m4; rw [s4, s3, s2, s1] at c5
  have b25 := b2.trans ((b3.trans ((b4.trans (b5.mono b4.size)).mono b3.size)).mono b2.size)
  refine ⟨⟨w.heap.size + 1 + 1 + 1 + 1, w.heap.size, w.heap.size + 1, w.heap.size + 1 + 1, w.heap.size + 1 + 1 + 1⟩, rfl, ?_, b1.trans (b25.mono b1.size)⟩
  refine ⟨hcs ▸ c5, m1.below b25, m2.below (b3.trans ((b4.trans (b5.mono b4.size)).mono b3.size)), m3.below (b4.trans (b5.mono b4.size)), m4.below b5, ⟨rfl, fun i x hx => ?_⟩, ⟨rfl, fun i x hx => ?_⟩, ⟨rfl, fun i q hq => ?_, fun i j p q u v hi => ?_, fun q hq => ?_⟩, ?_, ?_⟩
  · simp [DagN.new] at hx
  · simp [DagN.new] at hx
  · simp at hq
  · simp at hi
  · cases hq
  · refine ⟨?_, ?_, ?_, ?_, ?_⟩ <;> refine hX _ ?_ <;> simp only [] <;> omega
  · refine ⟨?_, ?_, ?_, ?_, ?_, ?_⟩ <;> simp only [] <;> omega
end Go.Proofs.YtandadfphlandaaGreatDoor
namespace Go.Proofs.YtandadfphlandaaGreatDoor
open Go.RowKit Go.BigFrame
def GetPost (s : DagN) (n : List Nat) (w : World) (e : Ending) (w' : World) : Prop :=
  ∃ o pa pc, OwnI w.heap.size 25 (.slice pa o.preds.length pc) o.preds w' ∧ ((o ∈ s.ops ∧ nameN o = n ∧ e = .returned (.tuple #[.agg (opV o pa pc), .int .i64 0])) ∨ (n ∉ s.names ∧ o = zeroO ∧ e = .returned (.tuple #[.agg (opV o pa pc), .int .i64 5])))
theorem dev_get_nil (n : List Nat) (w : World) : Calls Tryz.prog 16 #[.pointer none, .agg (nums .u8 n).toArray] w fun e w' => e = .returned (.tuple #[.agg (opV zeroO none 0), .int .i64 2]) ∧ Below w.heap.size w w' := by
  have HS := Lib.hid (show (Tryz.prog.info? 38).map (·.size) = some (opV zeroO none 0).size from Tryz.sizeO)
  have x1 : Blk w.heap.size 25 .u8 n (w.alloc (.cells (nums .u8 n).toArray 25)) := heap_alloc_new w _
  have b1 : Below w.heap.size w (w.alloc (.cells (nums .u8 n).toArray 25)) := (Below.refl _ _).alloc (Nat.le_refl _) _
  have s1 : (w.alloc (.cells (nums .u8 n).toArray 25)).heap.size = w.heap.size + 1 := World.size_alloc _ _
  have b2 : Below (w.alloc (.cells (nums .u8 n).toArray 25)).heap.size (w.alloc (.cells (nums .u8 n).toArray 25)) ((w.alloc (.cells (nums .u8 n).toArray 25)).alloc (.cells (opV zeroO none 0) 38)) := (Below.refl _ _).alloc (Nat.le_refl _) _
  have x2 : Cells (w.alloc (.cells (nums .u8 n).toArray 25)).heap.size 38 (opV zeroO none 0) ((w.alloc (.cells (nums .u8 n).toArray 25)).alloc (.cells (opV zeroO none 0) 38)) := heap_alloc_new _ _
  rw [s1] at x2
  have y1 := x1.below b2
  have hb2 := b1.trans (b2.mono b1.size)
  have s2 : ((w.alloc (.cells (nums .u8 n).toArray 25)).alloc (.cells (opV zeroO none 0) 38)).heap.size = w.heap.size + 1 + 1 := by rw [World.size_alloc, s1]
  clear x1 b1 s1 b2
  go_enter Tryz.func16, Tryz.ntmps16
  go_upto_region 1 with (fail)
  obtain ⟨w2, hw2⟩ : ∃ x, x = (w.alloc (.cells (nums .u8 n).toArray 25)).alloc (.cells (opV zeroO none 0) 38) := ⟨_, rfl⟩
  rw [← hw2] at x2 y1 hb2 s2
  rw [zeroO_lit] at hw2
  rw [← hw2]
  have HX := Lib.hid x2
  have HY := Lib.hid y1
  have HB := Lib.hid hb2
  have HZ2 := Shut.mk s2
  clear hw2 x2 y1 hb2 s2
  go_upto_region 2 with (fail)
  refine wp_region_lit ?_
  refine wpList_build_val rfl 38 #[] rfl [] _ (by simp) built_op0 ?_
  simp only [Act.put, List.setIfInBounds_toArray, List.set_cons_zero, List.set_cons_succ]
  refine wpList_store_cells rfl 38 _ _ rfl rfl (w.heap.size + 1) (opV zeroO none 0) (opV zeroO none 0) 38 rfl rfl HX.out HS.out rfl (opV_all zeroO none 0) ?_
  intro w9 hc hb
  have HX9 := Lib.hid hc.out
  have HB9 := Lib.hid (show Below w.heap.size w w9 from But.toBelow HB.out hb.out (Nat.le_succ _) HB.out.size)
  clear hc hb HX HB
  go_wp2_with fail
  refine bodyPost_ret (results_cells_tmp rfl _ _ (w.heap.size + 1) (opV zeroO none 0) 38 _ _ rfl rfl HX9.out Tryz.underlying38 rfl HS.out) rfl ?_
  exact ⟨rfl, HB9.out⟩
set_option maxHeartbeats 4000000 in
set_option maxRecDepth 100000 in
theorem dev_get (X : Nat → Prop) (B : Bs) (T : Ents) (s : DagN) (hs : List (List Nat)) (M : Bh) (n : List Nat) (w : World) (h : SetAt X B T s hs M w) (hn : IdOk n) (hro : ∀ x ∈ s.ops, x.Fit) :
    Calls Tryz.prog 16 #[.pointer (some ⟨B.gs, 0, none⟩), .agg (nums .u8 n).toArray] w fun e w' => GetPost s n w e w' ∧ Below w.heap.size w w' := by
  obtain ⟨x, pa, pc, e1, e2, e3, e4, e5⟩ := ents_look h.ops h.pm.nodup (fun x hx => (hro x hx).d.ref.1) n
  have hpl : x.preds.length ≤ 70 ∧ Ids x.preds := by
    rcases e5 with ⟨_, h1, _⟩ | ⟨_, rfl, _⟩
    · exact ⟨(hro x h1).many, (hro x h1).preds⟩
    · exact ⟨Nat.zero_le _, fun p hp => by cases hp⟩
  have HPL := Lib.hid hpl
  have x1 : Blk w.heap.size 25 .u8 n (w.alloc (.cells (nums .u8 n).toArray 25)) := heap_alloc_new w _
  have b1 : Below w.heap.size w (w.alloc (.cells (nums .u8 n).toArray 25)) := (Below.refl _ _).alloc (Nat.le_refl _) _
  have s1 : (w.alloc (.cells (nums .u8 n).toArray 25)).heap.size = w.heap.size + 1 := World.size_alloc _ _
  have b2 : Below (w.alloc (.cells (nums .u8 n).toArray 25)).heap.size (w.alloc (.cells (nums .u8 n).toArray 25)) ((w.alloc (.cells (nums .u8 n).toArray 25)).alloc (.cells (opV zeroO none 0) 38)) := (Below.refl _ _).alloc (Nat.le_refl _) _
  have x2 : Cells (w.alloc (.cells (nums .u8 n).toArray 25)).heap.size 38 (opV zeroO none 0) ((w.alloc (.cells (nums .u8 n).toArray 25)).alloc (.cells (opV zeroO none 0) 38)) := heap_alloc_new _ _
  rw [s1] at x2
  have y1 := x1.below b2
  have hb2 := b1.trans (b2.mono b1.size)
  have s2 : ((w.alloc (.cells (nums .u8 n).toArray 25)).alloc (.cells (opV zeroO none 0) 38)).heap.size = w.heap.size + 1 + 1 := by rw [World.size_alloc, s1]
  clear x1 b1 s1 b2
  have HN := Lib.hid hn
  have HSN := Lib.hid (show (Tryz.prog.info? 25).map (·.size) = some n.length by rw [hn.1]; exact Tryz.sizeI)
  obtain ⟨pb, hp⟩ : ∃ p, decide (n ∈ s.names) = p := ⟨_, rfl⟩
  rw [show decide (n ∈ s.ops.map nameN) = pb from hp] at e2
  obtain ⟨Z, hZ⟩ : ∃ Z, opV x pa pc = Z := ⟨_, rfl⟩
  have HE1 := Shut.mk (show Value.tuple #[atE T.p (.agg (opV zeroO none 0)) n, .bool (decide (n ∈ T.p.map (·.1)))] = .tuple #[.agg Z, .bool pb] by rw [e1, e2, hZ])
  have HI1 := Lib.hid (show (Tryz.prog.info? 38).map (·.size) = some Z.size by rw [← hZ, opV_size e3]; exact Tryz.sizeO)
  have HL1 := Lib.hid (show (opV zeroO none 0).size = Z.size by rw [← hZ, opV_size e3]; rfl)
  have HA1 := Lib.hid (show Z.all (·.oneCell') = true by rw [← hZ]; exact opV_one _ _ _)
  have HE3 := Lib.hid e3
  have HZ := Shut.mk hZ
  have HP := Shut.mk hp
  have HFD := Lib.hid e5
  have HS := Lib.hid (show (Tryz.prog.info? 38).map (·.size) = some (opV zeroO none 0).size from Tryz.sizeO)
  have HS00 := Lib.hid (h.below hb2)
  have HIA := Lib.hid (e4.below hb2)
  clear h hn e1 e2 e3 hro hp e4 e5 hpl hZ
  go_enter Tryz.func16, Tryz.ntmps16
  go_upto_region 1 with (fail)
  obtain ⟨w2, hw2⟩ : ∃ x, x = (w.alloc (.cells (nums .u8 n).toArray 25)).alloc (.cells (opV zeroO none 0) 38) := ⟨_, rfl⟩
  rw [← hw2] at x2 y1 hb2 s2 HS00 HIA
  rw [zeroO_lit] at hw2
  rw [← hw2]
  have HX := Lib.hid x2
  have HY := Lib.hid y1
  have HB := Lib.hid hb2
  have HZ2 := Shut.mk s2
  clear hw2 x2 y1 hb2 s2
  go_upto_region 3 with (fail)
  refine wp_region_free 11 (fun q V w' => Val q V 0 (.pointer (some ⟨B.gs, 0, none⟩)) ∧ Val q V 1 (.pointer (some ⟨B.gs, 0, none⟩)) ∧ Val q V 2 (.pointer (some ⟨B.gs, 0, none⟩)) ∧ Val q V 3 (.map (some B.p)) ∧ Val q V 4 (.agg (nums .u8 n).toArray) ∧ Val q V 5 (.tuple #[.agg Z, .bool pb]) ∧ Val q V 6 (.tuple #[.agg Z, .bool pb]) ∧ Val q V 7 (.agg Z) ∧ Val q V 8 (.bool pb) ∧ PutC q V w2.heap.size 9 10 38 (opV zeroO none 0) (Z) w' ∧ Below w2.heap.size w2 w' ∧ Late q 9 10) (fun _ => undef) (by kernel_rfl) (by kernel_rfl) (by kernel_rfl) (by simp only [List.take_succ_cons, List.take_zero, putAll, Act.put, List.setIfInBounds_toArray, List.set_cons_zero, List.set_cons_succ]) ⟨Val.none, Val.none, Val.none, Val.none, Val.none, Val.none, Val.none, Val.none, Val.none, PutC.none, (Below.refl _ _).drew, Late.none⟩ ?_ ?_
  · simp only [List.take_succ_cons, List.take_zero, putAll, Nat.zero_add, Nat.reduceAdd, Act.put, List.setIfInBounds_toArray, List.set_cons_zero, List.set_cons_succ]
    refine FreeSteps.cons ?_ (FreeSteps.cons ?_ (FreeSteps.cons ?_ (FreeSteps.cons ?_ (FreeSteps.cons ?_ (FreeSteps.cons ?_ (FreeSteps.cons ?_ (FreeSteps.cons ?_ (FreeSteps.cons ?_ (FreeSteps.cons ?_ (FreeSteps.cons ?_ (FreeSteps.nil)))))))))))
    all_goals (refine FreeStep.fresh rfl ?_; rintro q V wq hr hu ⟨h0, h1, h2, h3, h4, h5, h6, h7, h8, h9, hb, hl9⟩ K hK)
    · exact op_move (.tmp 0) rfl _ rfl (hK _ _ ⟨.same, h1.ne (by decide), h2.ne (by decide), h3.ne (by decide), h4.ne (by decide), h5.ne (by decide), h6.ne (by decide), h7.ne (by decide), h8.ne (by decide), h9.ne (by decide) (by decide) (Below.refl _ _), hb, hl9.ne (by decide)⟩)
    · exact op_nilCheck (.tmp 12) rfl ⟨B.gs, 0, none⟩ (h0 (hr { on := 0, ground := .data } (by simp) rfl)) (hK _ _ ⟨h0.ne (by decide), .same, h2.ne (by decide), h3.ne (by decide), h4.ne (by decide), h5.ne (by decide), h6.ne (by decide), h7.ne (by decide), h8.ne (by decide), h9.ne (by decide) (by decide) (Below.refl _ _), hb, hl9.ne (by decide)⟩)
    · exact op_fieldAt 65 (.tmp 13) 0 rfl _ _ (h1 (hr { on := 1, ground := .data } (by simp) rfl)) (field_dag B.gs 0 (by decide)) (hK _ _ ⟨h0.ne (by decide), h1.ne (by decide), .same, h3.ne (by decide), h4.ne (by decide), h5.ne (by decide), h6.ne (by decide), h7.ne (by decide), h8.ne (by decide), h9.ne (by decide) (by decide) (Below.refl _ _), hb, hl9.ne (by decide)⟩)
    · exact op_load_cell 61 (.tmp 14) rfl _ _ (h2 (hr { on := 2, ground := .data } (by simp) rfl)) (HS00.out.below hb).cell.1 Tryz.isAgg61 (hK _ _ ⟨h0.ne (by decide), h1.ne (by decide), h2.ne (by decide), .same, h4.ne (by decide), h5.ne (by decide), h6.ne (by decide), h7.ne (by decide), h8.ne (by decide), h9.ne (by decide) (by decide) (Below.refl _ _), hb, hl9.ne (by decide)⟩)
    · exact op_load_nums 25 (.tmp 3) rfl w.heap.size .u8 n 25 _ rfl (HY.out.below hb) Tryz.underlying25 rfl HSN.out (hK _ _ ⟨h0.ne (by decide), h1.ne (by decide), h2.ne (by decide), h3.ne (by decide), .same, h5.ne (by decide), h6.ne (by decide), h7.ne (by decide), h8.ne (by decide), h9.ne (by decide) (by decide) (Below.refl _ _), hb, hl9.ne (by decide)⟩)
    · exact op_lookup_id (.tmp 15) (.tmp 16) 61 25 38 true rfl Tryz.idKey Tryz.underlying61 (.agg (opV zeroO none 0)) (zero_op wq) B.p T.p (HS00.out.below hb).pm n HN.out (h3 (hr { on := 3, ground := .data } (by simp) rfl)) (h4 (hr { on := 4, ground := .data } (by simp) rfl)) _ (by rw [HE1.out]; rfl) (hK _ _ ⟨h0.ne (by decide), h1.ne (by decide), h2.ne (by decide), h3.ne (by decide), h4.ne (by decide), .same, h6.ne (by decide), h7.ne (by decide), h8.ne (by decide), h9.ne (by decide) (by decide) (Below.refl _ _), hb, hl9.ne (by decide)⟩)
    · exact op_move (.tmp 17) rfl _ (h5 (hr { on := 5, ground := .data } (by simp) rfl)) (hK _ _ ⟨h0.ne (by decide), h1.ne (by decide), h2.ne (by decide), h3.ne (by decide), h4.ne (by decide), h5.ne (by decide), .same, h7.ne (by decide), h8.ne (by decide), h9.ne (by decide) (by decide) (Below.refl _ _), hb, hl9.ne (by decide)⟩)
    · exact op_extract (.tmp 11) 0 rfl _ _ (h6 (hr { on := 6, ground := .data } (by simp) rfl)) (extract0 _ _) (hK _ _ ⟨h0.ne (by decide), h1.ne (by decide), h2.ne (by decide), h3.ne (by decide), h4.ne (by decide), h5.ne (by decide), h6.ne (by decide), .same, h8.ne (by decide), h9.ne (by decide) (by decide) (Below.refl _ _), hb, hl9.ne (by decide)⟩)
    · exact op_extract (.tmp 11) 1 rfl _ _ (h6 (hr { on := 6, ground := .data } (by simp) rfl)) (extract1 _ _) (hK _ _ ⟨h0.ne (by decide), h1.ne (by decide), h2.ne (by decide), h3.ne (by decide), h4.ne (by decide), h5.ne (by decide), h6.ne (by decide), h7.ne (by decide), .same, h9.ne (by decide) (by decide) (Below.refl _ _), hb, hl9.ne (by decide)⟩)
    · exact op_alloc 38 rfl (opV zeroO none 0) alloc_op (hK _ _ ⟨h0.ne (by decide), h1.ne (by decide), h2.ne (by decide), h3.ne (by decide), h4.ne (by decide), h5.ne (by decide), h6.ne (by decide), h7.ne (by decide), h8.ne (by decide), PutC.made hb.size (hl9.not hu) (by decide), hb.alloc hb.size _, hl9.ne (by decide)⟩)
    · obtain ⟨g, hV, hg0, hc0⟩ := h9 (hr { on := 9, ground := .data } (by simp) rfl)
      rw [if_neg (by rw [hu]; decide)] at hc0
      refine op_store_cells 38 (.tmp 6) (.tmp 18) rfl g _ (Z) 38 hV (h7 (hr { on := 7, ground := .data } (by simp) rfl)) hc0 HI1.out HL1.out HA1.out ?_
      intro w' hc' hbt
      have hbn := But.toBelow hb hbt hg0 hb.size
      exact (hK _ _ ⟨h0.ne (by decide), h1.ne (by decide), h2.ne (by decide), h3.ne (by decide), h4.ne (by decide), h5.ne (by decide), h6.ne (by decide), h7.ne (by decide), h8.ne (by decide), PutC.stored hV hg0 (by decide) hc', hbn, Late.same (hr { on := 9, ground := .data } (by simp) rfl)⟩)
  rintro q V wq hall ⟨h0, h1, h2, h3, h4, h5, h6, h7, h8, h9, hb, hl9⟩
  have v0 := h0 (hall 0 (by decide))
  have v1 := h1 (hall 1 (by decide))
  have v2 := h2 (hall 2 (by decide))
  have v3 := h3 (hall 3 (by decide))
  have v4 := h4 (hall 4 (by decide))
  have v5 := h5 (hall 5 (by decide))
  have v6 := h6 (hall 6 (by decide))
  have v7 := h7 (hall 7 (by decide))
  have v8 := h8 (hall 8 (by decide))
  obtain ⟨g9, v9, hg9, hc9⟩ := h9 (hall 9 (by decide))
  rw [if_pos (hall 10 (by decide))] at hc9
  obtain ⟨u10, v10⟩ : ∃ v, V 10 = v := ⟨_, rfl⟩
  simp only [List.take_succ_cons, List.take_zero, List.drop_succ_cons, List.drop_zero, putAll, Nat.zero_add, Nat.reduceAdd, v0, v1, v2, v3, v4, v5, v6, v7, v8, v9, Act.put, List.setIfInBounds_toArray, List.set_cons_zero, List.set_cons_succ]
  clear h0 h1 h2 h3 h4 h5 h6 h7 h8 v0 v1 v2 v3 v4 v5 v6 v7 v8 v9 v10 hall hl9
  have HXQ := Lib.hid (HX.out.below hb)
  have HBQ := Lib.hid (HB.out.trans (hb.mono HB.out.size))
  have HIQ := Lib.hid (HIA.out.below hb)
  have HCQ := Lib.hid hc9
  have HGQ := Lib.hid (show w.heap.size + 1 + 1 ≤ g9 from by have := HZ2.out; omega)
  clear hb hc9 hg9 HX HB HY HIA
  obtain ⟨w3, hw3⟩ : ∃ x, x = wq := ⟨_, rfl⟩
  rw [← hw3] at HXQ HBQ HIQ HCQ ⊢
  clear hw3
  cases pb with
  | false =>
    have hno : n ∉ s.names := of_decide_eq_false HP.out
    have HNO := Lib.hid hno
    clear hno
    go_upto_region 5 with (fail)
    refine wp_region_lit ?_
    refine wpList_build_val rfl 38 #[] rfl [] _ (by simp) built_op0 ?_
    simp only [Act.put, List.setIfInBounds_toArray, List.set_cons_zero, List.set_cons_succ]
    refine wpList_store_cells rfl 38 _ _ rfl rfl (w.heap.size + 1) (opV zeroO none 0) (opV zeroO none 0) 38 rfl rfl HXQ.out HS.out rfl (opV_all zeroO none 0) ?_
    intro w9 hc hb
    have HX9 := Lib.hid hc.out
    have HB9 := Lib.hid (show Below w.heap.size w w9 from But.toBelow HBQ.out hb.out (Nat.le_succ _) HBQ.out.size)
    clear hc hb HXQ HBQ
    go_wp2_with fail
    refine bodyPost_ret (results_cells_tmp rfl _ _ (w.heap.size + 1) (opV zeroO none 0) 38 _ _ rfl rfl HX9.out Tryz.underlying38 rfl HS.out) rfl ?_
    exact ⟨⟨zeroO, none, 0, OwnI.nil _ _ _, .inr ⟨HNO.out, rfl, rfl⟩⟩, HB9.out⟩
  | true =>
    have hfd : x ∈ s.ops ∧ nameN x = n := by
      have hin : n ∈ s.names := of_decide_eq_true HP.out
      rcases HFD.out with ⟨_, h1, h2, _⟩ | ⟨h1, _⟩
      · exact ⟨h1, h2⟩
      · exact absurd hin h1
    have HF := Lib.hid hfd
    have hcq : Cells g9 38 (opV x pa pc) w3 := by rw [HZ.out]; exact HCQ.out
    have HC3 := Lib.hid hcq
    have c37 := (op_cells HE3.out hcq).2.2.2
    have HCL := Lib.hid (clone_ids x.preds pa x.preds.length pc w3 HPL.out.2 HIQ.out rfl (by have := HPL.out.1; omega))
    have HSZ := Lib.hid (fun (pa' : Option Addr) (pc' : Nat) => show (Tryz.prog.info? 38).map (·.size) = some (opV x pa' pc').size by rw [opV_size HE3.out]; exact Tryz.sizeO)
    have HSL := Lib.hid (fun (pa' : Option Addr) (pc' : Nat) => show (opV zeroO none 0).size = (opV x pa' pc').size by rw [opV_size HE3.out]; rfl)
    clear hfd hcq
    go_wp2_with (first
      | (refine HCL.out.mono ?_; rintro e w6 ⟨pa', pc', rfl, ho6, hb6, hn6⟩
         have HO6 := Lib.hid ho6
         have HB6 := Lib.hid (HBQ.out.trans (hb6.mono HBQ.out.size))
         have HC66 := Lib.hid (HC3.out.below hb6)
         have HX6 := Lib.hid (HXQ.out.below hb6)
         have HQ6 := Lib.hid hb6.size
         have c37' := (op_cells HE3.out HC66.out).2.2.2
         have f37 := HC66.out.frozen 37
         have hk7 : But g9 w6 (w6.setCell ⟨g9, 37, none⟩ (.slice pa' x.preds.length pc')) := (But.refl g9 w6).setCell 37 _
         have HK7 := Lib.hid hk7
         have HX7 := Lib.hid (show Cells (w.heap.size + 1) 38 (opV zeroO none 0) (w6.setCell ⟨g9, 37, none⟩ (.slice pa' x.preds.length pc')) from (hk7.block _ HX6.out.lt (by have := HGQ.out; omega)).trans HX6.out)
         have HC7 := Lib.hid (show Cells g9 38 (opV x pa' pc') (w6.setCell ⟨g9, 37, none⟩ (.slice pa' x.preds.length pc')) from by
           have h := HC66.out.set 37 (.slice pa' x.preds.length pc')
           rw [show (opV x pa pc).setIfInBounds 37 (.slice pa' x.preds.length pc') = opV x pa' pc' from opV_preds (d := x.d) (a := x.author) (b := x.depth) (L := x.preds) (M := x.preds) HE3.out rfl pa pa' pc pc'] at h
           exact h)
         clear ho6 hb6 hn6 hk7 HCL c37)
      | (refine wpList_load_cells rfl 38 (.tmp 6) rfl g9 (opV x pa' pc') 38 _ rfl HC7.out Tryz.underlying38 rfl (HSZ.out pa' pc') ?_)
      | (refine wpList_store_cells rfl 38 _ _ rfl rfl (w.heap.size + 1) (opV zeroO none 0) (opV x pa' pc') 38 rfl rfl HX7.out (HSZ.out pa' pc') (HSL.out pa' pc') (opV_all x pa' pc') ?_))
    intro w9 hc hb
    have HX9 := Lib.hid hc.out
    have hb67 : Below w.heap.size w (w6.setCell ⟨g9, 37, none⟩ (.slice pa' x.preds.length pc')) := But.toBelow HB6.out HK7.out (by have := HGQ.out; omega) HB6.out.size
    have HB9 := Lib.hid (show Below w.heap.size w w9 from But.toBelow hb67 hb.out (Nat.le_succ _) hb67.size)
    have HOF := Lib.hid (show OwnI w.heap.size 25 (.slice pa' x.preds.length pc') x.preds w9 from by
      have h1 : ∀ k, (Value.slice pa' x.preds.length pc').ownBlock = some k → g9 ≠ k := fun k hk e => by
        have := (World.ownsRow.lt HO6.out k hk).1
        have := HC3.out.lt
        omega
      have h2 : ∀ k, (Value.slice pa' x.preds.length pc').ownBlock = some k → w.heap.size + 1 ≠ k := fun k hk e => by
        have := (World.ownsRow.lt HO6.out k hk).1
        have := HXQ.out.lt
        omega
      exact ((HO6.out.but HK7.out h1).but hb.out h2).mono HBQ.out.size)
    clear hc hb hb67 c37' f37
    go_wp2_with fail
    refine bodyPost_ret (results_cells_tmp rfl _ _ (w.heap.size + 1) (opV x pa' pc') 38 _ _ rfl rfl HX9.out Tryz.underlying38 rfl (HSZ.out pa' pc')) rfl ?_
    exact ⟨⟨x, pa', pc', HOF.out, .inl ⟨HF.out.1, HF.out.2, rfl⟩⟩, HB9.out⟩
end Go.Proofs.YtandadfphlandaaGreatDoor
