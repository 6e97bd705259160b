/-
  Joined: The developers' Get. Written by dag/gen/gen_get.py.; maps.Keys of a set of names, and its iterator.; The names of a set of names, ascending.; The developers' Names; at nil.; The developers' New.; The developers' Heads, Waits; at nil: Heads, Waits, Past.; The developers' Next. Written by dag/gen/gen_nx.py.; YtnbldbbbibpobaaGreatDoorAlM; A set that was made, in a wider place; it is tame.; What the laws of layer 10 ask first: alive.; The table of the round constants, laid; what a law's arguments are.
-/
import Derived.Carry
import Derived.Deep.DeepHandedRow
import Derived.Lib.LaidTab
import Derived.Test.YtnbldbbbibpobaaGreatDoorCards
import Derived.Test.YtnbldbbbibpobaaGreatDoorTie
import Derived.Test.YtnbldbbbibpobaaGreatDoorJ04
import Derived.Test.YtnbldbbbibpobaaGreatDoorJ05
import Derived.Test.YtnbldbbbibpobaaGreatDoorJ06
import Derived.Test.YtnbldbbbibpobaaGreatDoorJ07
import Derived.Test.YtnbldbbbibpobaaGreatDoorJ08
import Derived.Test.YtnbldbbbibpobaaGreatDoorJ18
import Derived.Test.YtnbldbbbibpobaaGreatDoorJ20
import Derived.Test.YtnbldbbbibpobaaGreatDoorJ21
set_option maxRecDepth 100000
set_option maxHeartbeats 8000000
namespace Go.Proofs.YtnbldbbbibpobaaGreatDoor
open Go.RowKit Go.BigFrame
def GetPost (s:DagN) (n:List Nat) (w:World) (e:Ending) (w':World):Prop :=
 ∃ o pa pc,OwnI w.heap.size 25 (.slice pa o.preds.length pc) o.preds w' ∧ ((o ∈ s.ops ∧ z0a o = n ∧ e = .returned (.tuple #[.agg (opV o pa pc),.int .i64 0])) ∨ (n ∉ s.names ∧ o = z05 ∧ e = .returned (.tuple #[.agg (opV o pa pc),.int .i64 5])))
theorem z81 (X:Nat → Prop) (B:Bs) (T:Ents) (s:DagN) (hs:List (List Nat)) (M:Bh) (n:List Nat) (w:World) (h:SetAt X B T s hs M w) (hn:IdOk n) (hro:∀ x ∈ s.ops,x.Fit) :
 Calls Tryz.prog 19 #[.pointer (some ⟨B.gs,0,none⟩),.agg (z06 .u8 n).toArray] w fun e w'=>GetPost s n w e w' ∧ Below w.heap.size w w':=by
 obtain ⟨x,pa,pc,e1,e2,e3,e4,e5⟩:=z3z h.ops h.pm.nodup (fun x hx=>(hro x hx).d.ref.1) n
 have hpl:x.preds.length ≤ 70 ∧ Ids x.preds:=by
  rcases e5 with ⟨_,h1,_⟩ | ⟨_,rfl,_⟩
  ·exact ⟨(hro x h1).many,(hro x h1).preds⟩
  ·exact ⟨Nat.zero_le _,fun p hp=>by cases hp⟩
 have HPL:=Lib.hid hpl
 have x1:Blk w.heap.size 25 .u8 n (w.alloc (.cells (z06 .u8 n).toArray 25)):=heap_alloc_new w _
 have b1:Below w.heap.size w (w.alloc (.cells (z06 .u8 n).toArray 25)):=(Below.refl _ _).alloc (Nat.le_refl _) _
 have s1:(w.alloc (.cells (z06 .u8 n).toArray 25)).heap.size = w.heap.size + 1:=World.size_alloc _ _
 have b2:Below (w.alloc (.cells (z06 .u8 n).toArray 25)).heap.size (w.alloc (.cells (z06 .u8 n).toArray 25)) ((w.alloc (.cells (z06 .u8 n).toArray 25)).alloc (.cells (opV z05 none 0) 38)):=(Below.refl _ _).alloc (Nat.le_refl _) _
 have x2:Cells (w.alloc (.cells (z06 .u8 n).toArray 25)).heap.size 38 (opV z05 none 0) ((w.alloc (.cells (z06 .u8 n).toArray 25)).alloc (.cells (opV z05 none 0) 38)):=heap_alloc_new _ _
 rw [s1] at x2
 have y1:=x1.below b2
 have hb2:=b1.trans (b2.mono b1.size)
 have s2:((w.alloc (.cells (z06 .u8 n).toArray 25)).alloc (.cells (opV z05 none 0) 38)).heap.size = w.heap.size + 1 + 1:=by rw [World.size_alloc,s1]
 clear x1 b1 s1 b2
 have HN:=Lib.hid hn
 have HSN:=Lib.hid (show (Tryz.prog.info? 25).map (·.size) = some n.length by rw [hn.1];exact Tryz.sizeI)
 obtain ⟨pb,hp⟩:∃ p,decide (n ∈ s.names) = p:=⟨_,rfl⟩
 rw [show decide (n ∈ s.ops.map z0a) = pb from hp] at e2
 obtain ⟨Z,hZ⟩:∃ Z,opV x pa pc = Z:=⟨_,rfl⟩
 have HE1:=Shut.mk (show Value.tuple #[atE T.p (.agg (opV z05 none 0)) n,.bool (decide (n ∈ T.p.map (·.1)))] = .tuple #[.agg Z,.bool pb] by rw [e1,e2,hZ])
 have HI1:=Lib.hid (show (Tryz.prog.info? 38).map (·.size) = some Z.size by rw [← hZ,z07 e3];exact Tryz.sizeO)
 have HL1:=Lib.hid (show (opV z05 none 0).size = Z.size by rw [← hZ,z07 e3];rfl)
 have HA1:=Lib.hid (show Z.all (·.oneCell') = true by rw [← hZ];exact z9x _ _ _)
 have HE3:=Lib.hid e3
 have HZ:=Shut.mk hZ
 have HP:=Shut.mk hp
 have HFD:=Lib.hid e5
 have HS:=Lib.hid (show (Tryz.prog.info? 38).map (·.size) = some (opV z05 none 0).size from Tryz.sizeO)
 have HS00:=Lib.hid (h.below hb2)
 have HIA:=Lib.hid (e4.below hb2)
 clear h hn e1 e2 e3 hro hp e4 e5 hpl hZ
 go_enter Tryz.func19,Tryz.ntmps19
 go_upto_region 1 with (fail)
 obtain ⟨w2,hw2⟩:∃ x,x = (w.alloc (.cells (z06 .u8 n).toArray 25)).alloc (.cells (opV z05 none 0) 38):=⟨_,rfl⟩
 rw [← hw2] at x2 y1 hb2 s2 HS00 HIA
 rw [z5w] at hw2
 rw [← hw2]
 have HX:=Lib.hid x2
 have HY:=Lib.hid y1
 have HB:=Lib.hid hb2
 have HZ2:=Shut.mk s2
 clear hw2 x2 y1 hb2 s2
 go_upto_region 3 with (fail)
 refine z0f 11 (fun q V w'=>Val q V 0 (.pointer (some ⟨B.gs,0,none⟩)) ∧ Val q V 1 (.pointer (some ⟨B.gs,0,none⟩)) ∧ Val q V 2 (.pointer (some ⟨B.gs,0,none⟩)) ∧ Val q V 3 (.map (some B.p)) ∧ Val q V 4 (.agg (z06 .u8 n).toArray) ∧ Val q V 5 (.tuple #[.agg Z,.bool pb]) ∧ Val q V 6 (.tuple #[.agg Z,.bool pb]) ∧ Val q V 7 (.agg Z) ∧ Val q V 8 (.bool pb) ∧ PutC q V w2.heap.size 9 10 38 (opV z05 none 0) (Z) w' ∧ Below w2.heap.size w2 w' ∧ Late q 9 10) (fun _=>undef) (by kernel_rfl) (by kernel_rfl) (by kernel_rfl) (by simp only [zC,zD,z0i,Act.put,zS,zA,zB]) ⟨Val.none,Val.none,Val.none,Val.none,Val.none,Val.none,Val.none,Val.none,Val.none,PutC.none,(Below.refl _ _).drew,Late.none⟩ ?_ ?_
 ·simp only [zC,zD,z0i,Nat.zero_add,Nat.reduceAdd,Act.put,zS,zA,zB]
  refine zQc ?_ (zQc ?_ (zQc ?_ (zQc ?_ (zQc ?_ (zQc ?_ (zQc ?_ (zQc ?_ (zQc ?_ (zQc ?_ (zQc ?_ (zQn)))))))))))
  all_goals (refine zQf rfl ?_;rintro q V wq hr hu ⟨h0,h1,h2,h3,h4,h5,h6,h7,h8,h9,hb,hl9⟩ K hK)
  ·exact z0h (.tmp 0) rfl _ rfl (hK _ _ ⟨.same,h1.nd,h2.nd,h3.nd,h4.nd,h5.nd,h6.nd,h7.nd,h8.nd,h9.ne (by decide) (by decide) (Below.refl _ _),hb,hl9.nd⟩)
  ·exact z0m (.tmp 12) rfl ⟨B.gs,0,none⟩ (h0 (hr { on:=0,ground:=.data } (by simp) rfl)) (hK _ _ ⟨h0.nd,.same,h2.nd,h3.nd,h4.nd,h5.nd,h6.nd,h7.nd,h8.nd,h9.ne (by decide) (by decide) (Below.refl _ _),hb,hl9.nd⟩)
  ·exact z0l 80 (.tmp 13) 0 rfl _ _ (h1 (hr { on:=1,ground:=.data } (by simp) rfl)) (z4m B.gs 0 (by decide)) (hK _ _ ⟨h0.nd,h1.nd,.same,h3.nd,h4.nd,h5.nd,h6.nd,h7.nd,h8.nd,h9.ne (by decide) (by decide) (Below.refl _ _),hb,hl9.nd⟩)
  ·exact z0o 76 (.tmp 14) rfl _ _ (h2 (hr { on:=2,ground:=.data } (by simp) rfl)) (HS00.out.below hb).cell.1 Tryz.isAgg76 (hK _ _ ⟨h0.nd,h1.nd,h2.nd,.same,h4.nd,h5.nd,h6.nd,h7.nd,h8.nd,h9.ne (by decide) (by decide) (Below.refl _ _),hb,hl9.nd⟩)
  ·exact z16 25 (.tmp 3) rfl w.heap.size .u8 n 25 _ rfl (HY.out.below hb) Tryz.underlying25 rfl HSN.out (hK _ _ ⟨h0.nd,h1.nd,h2.nd,h3.nd,.same,h5.nd,h6.nd,h7.nd,h8.nd,h9.ne (by decide) (by decide) (Below.refl _ _),hb,hl9.nd⟩)
  ·exact z3d (.tmp 15) (.tmp 16) 76 25 38 true rfl Tryz.idKey Tryz.underlying76 (.agg (opV z05 none 0)) (z6r wq) B.p T.p (HS00.out.below hb).pm n HN.out (h3 (hr { on:=3,ground:=.data } (by simp) rfl)) (h4 (hr { on:=4,ground:=.data } (by simp) rfl)) _ (by rw [HE1.out];rfl) (hK _ _ ⟨h0.nd,h1.nd,h2.nd,h3.nd,h4.nd,.same,h6.nd,h7.nd,h8.nd,h9.ne (by decide) (by decide) (Below.refl _ _),hb,hl9.nd⟩)
  ·exact z0h (.tmp 17) rfl _ (h5 (hr { on:=5,ground:=.data } (by simp) rfl)) (hK _ _ ⟨h0.nd,h1.nd,h2.nd,h3.nd,h4.nd,h5.nd,.same,h7.nd,h8.nd,h9.ne (by decide) (by decide) (Below.refl _ _),hb,hl9.nd⟩)
  ·exact z20 (.tmp 11) 0 rfl _ _ (h6 (hr { on:=6,ground:=.data } (by simp) rfl)) (z8z _ _) (hK _ _ ⟨h0.nd,h1.nd,h2.nd,h3.nd,h4.nd,h5.nd,h6.nd,.same,h8.nd,h9.ne (by decide) (by decide) (Below.refl _ _),hb,hl9.nd⟩)
  ·exact z20 (.tmp 11) 1 rfl _ _ (h6 (hr { on:=6,ground:=.data } (by simp) rfl)) (z8y _ _) (hK _ _ ⟨h0.nd,h1.nd,h2.nd,h3.nd,h4.nd,h5.nd,h6.nd,h7.nd,.same,h9.ne (by decide) (by decide) (Below.refl _ _),hb,hl9.nd⟩)
  ·exact z2s 38 rfl (opV z05 none 0) z4f (hK _ _ ⟨h0.nd,h1.nd,h2.nd,h3.nd,h4.nd,h5.nd,h6.nd,h7.nd,h8.nd,PutC.made hb.size (hl9.not hu) (by decide),hb.alloc hb.size _,hl9.nd⟩)
  ·obtain ⟨g,hV,hg0,hc0⟩:=h9 (hr { on:=9,ground:=.data } (by simp) rfl)
   rw [if_neg (by rw [hu];decide)] at hc0
   refine z1z 38 (.tmp 6) (.tmp 18) rfl g _ (Z) 38 hV (h7 (hr { on:=7,ground:=.data } (by simp) rfl)) hc0 HI1.out HL1.out HA1.out ?_
   intro w' hc' hbt
   have hbn:=But.toBelow hb hbt hg0 hb.size
   exact (hK _ _ ⟨h0.nd,h1.nd,h2.nd,h3.nd,h4.nd,h5.nd,h6.nd,h7.nd,h8.nd,PutC.stored hV hg0 (by decide) hc',hbn,Late.same (hr { on:=9,ground:=.data } (by simp) rfl)⟩)
 rintro q V wq hall ⟨h0,h1,h2,h3,h4,h5,h6,h7,h8,h9,hb,hl9⟩
 have v0:=h0 (hall 0 (by decide))
 have v1:=h1 (hall 1 (by decide))
 have v2:=h2 (hall 2 (by decide))
 have v3:=h3 (hall 3 (by decide))
 have v4:=h4 (hall 4 (by decide))
 have v5:=h5 (hall 5 (by decide))
 have v6:=h6 (hall 6 (by decide))
 have v7:=h7 (hall 7 (by decide))
 have v8:=h8 (hall 8 (by decide))
 obtain ⟨g9,v9,hg9,hc9⟩:=h9 (hall 9 (by decide))
 rw [if_pos (hall 10 (by decide))] at hc9
 obtain ⟨u10,v10⟩:∃ v,V 10 = v:=⟨_,rfl⟩
 simp only [zC,zD,zE,zF,z0i,Nat.zero_add,Nat.reduceAdd,v0,v1,v2,v3,v4,v5,v6,v7,v8,v9,Act.put,zS,zA,zB]
 clear h0 h1 h2 h3 h4 h5 h6 h7 h8 v0 v1 v2 v3 v4 v5 v6 v7 v8 v9 v10 hall hl9
 have HXQ:=Lib.hid (HX.out.below hb)
 have HBQ:=Lib.hid (HB.out.trans (hb.mono HB.out.size))
 have HIQ:=Lib.hid (HIA.out.below hb)
 have HCQ:=Lib.hid hc9
 have HGQ:=Lib.hid (show w.heap.size + 1 + 1 ≤ g9 from by have:=HZ2.out;omega)
 clear hb hc9 hg9 HX HB HY HIA
 obtain ⟨w3,hw3⟩:∃ x,x = wq:=⟨_,rfl⟩
 rw [← hw3] at HXQ HBQ HIQ HCQ ⊢
 clear hw3
 cases pb with
 | false =>
   have hno:n ∉ s.names:=of_decide_eq_false HP.out
   have HNO:=Lib.hid hno
   clear hno
   go_upto_region 5 with (fail)
   refine wp_region_lit ?_
   refine z0r rfl 38 #[] rfl [] _ (by simp) z26 ?_
   simp only [Act.put,zS,zA,zB]
   refine z01 rfl 38 _ _ rfl rfl (w.heap.size + 1) (opV z05 none 0) (opV z05 none 0) 38 rfl rfl HXQ.out HS.out rfl (z0z z05 none 0) ?_
   intro w9 hc hb
   have HX9:=Lib.hid hc.out
   have HB9:=Lib.hid (show Below w.heap.size w w9 from But.toBelow HBQ.out hb.out (Nat.le_succ _) HBQ.out.size)
   clear hc hb HXQ HBQ
   go_wp2_with fail
   refine bodyPost_ret (z0p rfl _ _ (w.heap.size + 1) (opV z05 none 0) 38 _ _ rfl rfl HX9.out Tryz.underlying38 rfl HS.out) rfl ?_
   exact ⟨⟨z05,none,0,OwnI.nil _ _ _,.inr ⟨HNO.out,rfl,rfl⟩⟩,HB9.out⟩
 | true =>
   have hfd:x ∈ s.ops ∧ z0a x = n:=by
    have hin:n ∈ s.names:=of_decide_eq_true HP.out
    rcases HFD.out with ⟨_,h1,h2,_⟩ | ⟨h1,_⟩
    ·exact ⟨h1,h2⟩
    ·exact absurd hin h1
   have HF:=Lib.hid hfd
   have hcq:Cells g9 38 (opV x pa pc) w3:=by rw [HZ.out];exact HCQ.out
   have HC3:=Lib.hid hcq
   have c37:=(z0k HE3.out hcq).2.2.2
   have HCL:=Lib.hid (zdh x.preds pa x.preds.length pc w3 HPL.out.2 HIQ.out rfl (by have:=HPL.out.1;omega))
   have HSZ:=Lib.hid (fun (pa':Option Addr) (pc':Nat)=>show (Tryz.prog.info? 38).map (·.size) = some (opV x pa' pc').size by rw [z07 HE3.out];exact Tryz.sizeO)
   have HSL:=Lib.hid (fun (pa':Option Addr) (pc':Nat)=>show (opV z05 none 0).size = (opV x pa' pc').size by rw [z07 HE3.out];rfl)
   clear hfd hcq
   go_wp2_with (first
    | (refine HCL.out.mono ?_; rintro e w6 ⟨pa', pc', rfl, ho6, hb6, hn6⟩
       have HO6:=Lib.hid ho6
       have HB6:=Lib.hid (HBQ.out.trans (hb6.mono HBQ.out.size))
       have HC66:=Lib.hid (HC3.out.below hb6)
       have HX6:=Lib.hid (HXQ.out.below hb6)
       have HQ6:=Lib.hid hb6.size
       have c37':=(z0k HE3.out HC66.out).2.2.2
       have f37:=HC66.out.frozen 37
       have hk7:But g9 w6 (w6.setCell ⟨g9,37,none⟩ (.slice pa' x.preds.length pc')):=(But.refl g9 w6).setCell 37 _
       have HK7:=Lib.hid hk7
       have HX7:=Lib.hid (show Cells (w.heap.size + 1) 38 (opV z05 none 0) (w6.setCell ⟨g9,37,none⟩ (.slice pa' x.preds.length pc')) from (hk7.block _ HX6.out.lt (by have:=HGQ.out;omega)).trans HX6.out)
       have HC7:=Lib.hid (show Cells g9 38 (opV x pa' pc') (w6.setCell ⟨g9,37,none⟩ (.slice pa' x.preds.length pc')) from by
        have h:=HC66.out.set 37 (.slice pa' x.preds.length pc')
        rw [show (opV x pa pc).setIfInBounds 37 (.slice pa' x.preds.length pc') = opV x pa' pc' from z7a (d:=x.d) (a:=x.author) (b:=x.depth) (L:=x.preds) (M:=x.preds) HE3.out rfl pa pa' pc pc'] at h
        exact h)
       clear ho6 hb6 hn6 hk7 HCL c37)
    | (refine z00 rfl 38 (.tmp 6) rfl g9 (opV x pa' pc') 38 _ rfl HC7.out Tryz.underlying38 rfl (HSZ.out pa' pc') ?_)
    | (refine z01 rfl 38 _ _ rfl rfl (w.heap.size + 1) (opV z05 none 0) (opV x pa' pc') 38 rfl rfl HX7.out (HSZ.out pa' pc') (HSL.out pa' pc') (z0z x pa' pc') ?_))
   intro w9 hc hb
   have HX9:=Lib.hid hc.out
   have hb67:Below w.heap.size w (w6.setCell ⟨g9,37,none⟩ (.slice pa' x.preds.length pc')):=But.toBelow HB6.out HK7.out (by have:=HGQ.out;omega) HB6.out.size
   have HB9:=Lib.hid (show Below w.heap.size w w9 from But.toBelow hb67 hb.out (Nat.le_succ _) hb67.size)
   have HOF:=Lib.hid (show OwnI w.heap.size 25 (.slice pa' x.preds.length pc') x.preds w9 from by
    have h1:∀ k,(Value.slice pa' x.preds.length pc').ownBlock = some k → g9 ≠ k:=fun k hk e=>by
     have:=(World.ownsRow.lt HO6.out k hk).1
     have:=HC3.out.lt
     omega
    have h2:∀ k,(Value.slice pa' x.preds.length pc').ownBlock = some k → w.heap.size + 1 ≠ k:=fun k hk e=>by
     have:=(World.ownsRow.lt HO6.out k hk).1
     have:=HXQ.out.lt
     omega
    exact ((HO6.out.but HK7.out h1).but hb.out h2).mono HBQ.out.size)
   clear hc hb hb67 c37' f37
   go_wp2_with fail
   refine bodyPost_ret (z0p rfl _ _ (w.heap.size + 1) (opV x pa' pc') 38 _ _ rfl rfl HX9.out Tryz.underlying38 rfl (HSZ.out pa' pc')) rfl ?_
   exact ⟨⟨x,pa',pc',HOF.out,.inl ⟨HF.out.1,HF.out.2,rfl⟩⟩,HB9.out⟩
attribute [local go_sem] Oper.semAt_some
theorem keys_u (b:Nat) (w:World) :
 Calls Tryz.prog 86 #[.map (some b)] w fun x w'=>x = .returned (.func (.func 106) #[] #[.pointer (some ⟨w.heap.size,0,none⟩)]) ∧ Cells w.heap.size 77 #[.map (some b)] w' ∧ w'.heap.size = w.heap.size + 1 ∧ Below w.heap.size w w':=by
 go_enter Tryz.func86,Tryz.ntmps86
 go_wp2_with fail
 go_ret
 exact ⟨rfl,heap_alloc_new w _,World.size_alloc _ _,(Below.refl _ _).alloc (Nat.le_refl _) _⟩
theorem keys1_u (m l Bm b:Nat) (L:List (List Nat × Value)) (J Jx:List NId → World → Prop) (W:World) (hJ:AbidesFrom W.heap.size J) (hBm:W.cell? ⟨Bm,0,none⟩ = some (.map (some b))) (hM:MapN b L W)
 (hY:∀ pre (x:NId) W1,J pre W1 → pre.length < L.length → YieldAt Fence.wide (m - 1) Tryz.prog l #[.agg (z06 .u8 x.val).toArray] W1 fun e W' =>
  (e = .returned (.bool true) ∧ J (pre ++ [x]) W' ∧ KeepsWalks W1 W') ∨ (e = .returned (.bool false) ∧ Jx (pre ++ [x]) W'))
 (h0:J [] W) :
 CallsIn Fence.wide m Tryz.prog 106 #[.func (.yield l) #[] #[],.pointer (some ⟨Bm,0,none⟩)] W fun e W'=>(∃ v,e = .returned v) ∧
  ((∃ xs,(z1t xs).Perm (L.map (·.1)) ∧ J xs W') ∨ (∃ pre:List NId,pre.length ≤ L.length ∧ Jx pre W')):=by
 refine callsIn_wide.2 ?_
 have HJ:=Lib.hid hJ
 have HY:=Lib.hid hY
 have HM:=Lib.hid hM
 have H0:=Lib.hid h0
 clear hJ hY hM h0
 go_enter Tryz.func106,Tryz.ntmps106
 go_wp2_with (refine z5x rfl _ 77 rfl 25 92 Tryz.underlying77 rfl HM.out ?_)
 intro w0 hi0 hg0 hb0
 have HI0:=Lib.hid (show ∃ ss:List NId,IterN b W.heap.size L (z1t ss) w0 ∧ J ss w0 from ⟨[],hi0.out,HJ.out [] W w0 none H0.out hg0.out (fun r e=>by cases e)⟩)
 obtain ⟨r,hr⟩:∃ r,W.heap.size = r:=⟨_,rfl⟩
 rw [hr] at HI0 HJ ⊢
 clear hi0 hg0 hb0 HM H0 hBm hr
 go_wp2_with fail
 go_loopw [3] (fun _ wr=>∃ ss:List NId,IterN b r L (z1t ss) wr ∧ J ss wr) (fun _ wr=>wr.rangeLeft b r)
 case atStart=>exact HI0.out
 case round =>
  clear HI0
  obtain ⟨ss,hit,hJs⟩:=hrel
  have HIT:=Lib.hid hit
  have HJS:=Lib.hid hJs
  clear hit hJs
  go_wp2_with (refine z6l rfl _ rfl rfl HIT.out ?_ ?_)
  ·intro hp
   go_wp2_with fail
   refine bodyPost_end (results_none rfl _ _ _) rfl ?_
   exact ⟨⟨_,rfl⟩,.inl ⟨ss,hp.out,HJS.out⟩⟩
  ·intro n v w2 hnv hns hi2 hlt hg2 hen
   have hxok:IdOk n:=HIT.out.ok _ hnv.out
   have HX:=Lib.hid hxok
   have HLT:=Lib.hid hlt.out
   have hj2:J ss w2:=HJ.out ss wr w2 (some r) HJS.out hg2.out (fun q e=>by cases e;exact ⟨Nat.le_refl _,HIT.out.walk⟩)
   have HJ2:=Lib.hid hj2
   have HI2:=Lib.hid hi2.out
   have HS1:=Lib.hid (show (Tryz.prog.info? 25).map (·.size) = some n.length by rw [hxok.1];exact Tryz.sizeI)
   have HL2:=Lib.hid (show (List.replicate 32 0).length = n.length by rw [hxok.1];rfl)
   clear hnv hns hi2 hlt hg2 hxok hj2
   go_wp2_with (refine z04 rfl 25 _ _ rfl rfl w2.heap.size .u8 (List.replicate 32 0) n 25 rfl rfl (heap_alloc_new w2 _) HS1.out HL2.out ?_)
   intro w3 hc3 hb3
   have hB3:Below w2.heap.size w2 w3:=But.toBelow ((Below.refl _ _).alloc (Nat.le_refl _) _) hb3.out (Nat.le_refl _) (by rw [World.size_alloc];exact Nat.le_succ _)
   have HB3:=Lib.hid hB3
   have HC3:=Lib.hid hc3.out
   have HJ3:=Lib.hid (HJ.out ss w2 w3 none HJ2.out (z74 hB3 none) (fun q e=>by cases e))
   have HI3:=Lib.hid (HI2.out.kept (z73 hB3))
   have HR3:=Lib.hid (HI2.out.left_eq (z73 hB3))
   obtain ⟨g,hg⟩:∃ g,w2.heap.size = g:=⟨_,rfl⟩
   rw [hg] at HC3 ⊢
   clear hc3 hb3 hB3 HJ2 hg hen
   obtain ⟨fn,tmps,assign,body,hy,hR⟩:=HY.out ss ⟨n,HX.out⟩ w3 HJ3.out (by
    have:=HI3.out.count
    rw [List.length_append,z1e] at this
    simp only [List.length_singleton] at this
    omega)
   have HYY:=Lib.hid hy
   have HRR:=Lib.hid hR
   clear hy hR
   go_upto_region 3 with (fail)
   refine (wpIn_wide (n:=m)).1 ?_
   refine wpIn_region_lit ?_
   gi_wp2_with (refine z2t rfl 25 _ rfl g .u8 n 25 _ rfl HC3.out Tryz.underlying25 rfl HS1.out ?_)
   have hy:(Instr.yield l #[.agg (z06 .u8 n).toArray]).run Tryz.prog w3 = .ok (.round l fn tmps assign body) w3:=HYY.out
   rw [hy]
   refine ⟨(fun h=>by cases h),?_⟩
   refine HRR.out.mono ?_
   rintro e w4 (⟨rfl,hJ4,hk4⟩ | ⟨rfl,hJx4⟩)
   ·have HREL:=Lib.hid (show ∃ ss:List NId,IterN b r L (z1t ss) w4 ∧ J ss w4 from ⟨_,by rw [z4q];exact HI3.out.kept hk4,hJ4⟩)
    have HMS:=Lib.hid (show w4.rangeLeft b r < wr.rangeLeft b r from by rw [HI3.out.left_eq hk4,HR3.out];exact HLT.out)
    clear hJ4 hk4 hy
    gi_wp2
    go_wp2_with fail
    exact ⟨HREL.out,HMS.out⟩
   ·have HJ4:=Lib.hid hJx4
    clear hJx4 hy
    gi_wp2
    go_wp2_with fail
    refine bodyPost_ret (results_none rfl _ _ _) rfl ?_
    exact ⟨⟨_,rfl⟩,.inr ⟨_,by have:=HI3.out.count;rw [← z4q ss ⟨n,HX.out⟩,z1e] at this;exact this,HJ4.out⟩⟩
theorem zg9 (m Bm b:Nat) (L:List (List Nat × Value)) (w:World) (hBm:Cells Bm 77 #[.map (some b)] w) (hM:MapN b L w) :
 SeqStopsK Fence.wide m Tryz.prog 106 #[.pointer (some ⟨Bm,0,none⟩)] (fun x:NId=>#[.agg (z06 .u8 x.val).toArray]) KeepsWalks (fun xs=>(z1t xs).Perm (L.map (·.1))) (fun pre=>pre.length ≤ L.length) L.length w:=fun l J Jx W hW hJ _ hY h0=>by
 have hc:=(hBm.below hW).at 0
 exact keys1_u m l Bm b L J Jx W hJ hc (hM.below hW) hY h0
theorem zen (b:Nat) (L:List (List Nat × Value)) (w:World) (hM:MapN b L w) (hn:L.length ≤ 100000) :
 Calls Tryz.prog 61 #[.map (some b)] w fun e w'=>∃ v,e = .returned v ∧ OwnI w.heap.size 25 v (z0e (L.map (·.1))) w' ∧ Below w.heap.size w w':=by
 have HK:=Lib.hid (keys_u b w)
 have HM:=Lib.hid hM
 have HN:=Lib.hid hn
 clear hM hn
 go_enter Tryz.func61,Tryz.ntmps61
 go_wp2_with (first
  | (refine HK.out.mono ?_; rintro e w2 ⟨rfl, hc, hz, hb⟩
     have HB:=Lib.hid hb
     have HS:=Lib.hid (z6j _ _ (enters_of Tryz.func106 (by kernel_rfl) rfl) (L.map (·.1)) (fun pre=>pre.length ≤ L.length) (fun x hx=>by
      obtain ⟨p,hp,rfl⟩:=List.mem_map.1 hx
      exact (HM.out.ok p hp).1) HM.out.nodup (by rw [List.length_map];exact HN.out) w2 (by rw [List.length_map];exact zg9 2 w.heap.size b L w2 hc (HM.out.below hb)))
     clear hc hz hb)
  | (refine HS.out.mono ?_;rintro e w3 ⟨v,rfl,ho,hb3⟩))
 go_ret
 exact ⟨v,rfl,ho.mono HB.out.size,HB.out.trans (hb3.mono HB.out.size)⟩
theorem z7r {X:Nat → Prop} {B:Bs} {T:Ents} {s:DagN} {hs:List (List Nat)} {M:Bh} {w:World} (h:SetAt X B T s hs M w) (hb:s.ops.length ≤ 100000) :
 Calls Tryz.prog 22 #[.pointer (some ⟨B.gs,0,none⟩)] w fun e w'=>∃ v,e = .returned v ∧ OwnI w.heap.size 25 v (z0e s.names) w' ∧ Below w.heap.size w w':=by
 have hln:T.p.length ≤ 100000:=by rw [h.ops.1];exact hb
 have HE:=Shut.mk (show z0e (T.p.map (·.1)) = z0e s.names by rw [h.ops.keys];rfl)
 have HA:=Lib.hid (z9r B.p _ w h.pm hln)
 have c0:=h.cell.1
 clear h hb hln
 go_enter Tryz.func22,Tryz.ntmps22
 go_wp2_with (refine HA.out.mono ?_;rintro e w3 ⟨v,rfl,ho,hb3⟩)
 go_ret
 exact ⟨v,rfl,by rw [← HE.out];exact ho,hb3⟩
theorem za1 (X:Nat → Prop) (w:World) (hX:∀ b,w.heap.size ≤ b → X b) :
 Calls Tryz.prog 12 #[] w fun e w'=>∃ B,e = .returned (.pointer (some ⟨B.gs,0,none⟩)) ∧ SetAt X B ⟨[],[],[]⟩ DagN.new [] [] w' ∧ Below w.heap.size w w':=by
 have hmm:=@run_makeMap Tryz.prog
 go_enter Tryz.func12,Tryz.ntmps12
 go_wp2_with fail
 go_ret
 have b1:Below w.heap.size w (w.alloc (.map #[] 0)):=(Below.refl _ _).alloc (Nat.le_refl _) _
 have m1:=z90 w
 have s1:(w.alloc (.map #[] 0)).heap.size = w.heap.size + 1:=World.size_alloc _ _
 obtain ⟨w1,hw1⟩:∃ z,z = w.alloc (.map #[] 0):=⟨_,rfl⟩
 rw [← hw1] at b1 m1 s1 ⊢
 have b2:Below w1.heap.size w1 (w1.alloc (.map #[] 0)):=(Below.refl _ _).alloc (Nat.le_refl _) _
 have m2:=z90 w1
 have s2:(w1.alloc (.map #[] 0)).heap.size = w1.heap.size + 1:=World.size_alloc _ _
 obtain ⟨w2,hw2⟩:∃ z,z = w1.alloc (.map #[] 0):=⟨_,rfl⟩
 rw [← hw2] at b2 m2 s2 ⊢
 have b3:Below w2.heap.size w2 (w2.alloc (.map #[] 0)):=(Below.refl _ _).alloc (Nat.le_refl _) _
 have m3:=z90 w2
 have s3:(w2.alloc (.map #[] 0)).heap.size = w2.heap.size + 1:=World.size_alloc _ _
 obtain ⟨w3,hw3⟩:∃ z,z = w2.alloc (.map #[] 0):=⟨_,rfl⟩
 rw [← hw3] at b3 m3 s3 ⊢
 have b4:Below w3.heap.size w3 (w3.alloc (.map #[] 0)):=(Below.refl _ _).alloc (Nat.le_refl _) _
 have m4:=z90 w3
 have s4:(w3.alloc (.map #[] 0)).heap.size = w3.heap.size + 1:=World.size_alloc _ _
 obtain ⟨w4,hw4⟩:∃ z,z = w3.alloc (.map #[] 0):=⟨_,rfl⟩
 rw [← hw4] at b4 m4 s4 ⊢
 obtain ⟨cs,hcs⟩:∃ cs:Array Value,cs = #[.map (some w.heap.size),.map (some (w.heap.size + 1)),.map (some (w.heap.size + 1 + 1)),.map (some (w.heap.size + 1 + 1 + 1))]:=⟨_,rfl⟩
 rw [← hcs]
 have b5:Below w4.heap.size w4 (w4.alloc (.cells cs 80)):=(Below.refl _ _).alloc (Nat.le_refl _) _
 have c5:Cells w4.heap.size 80 cs (w4.alloc (.cells cs 80)):=heap_alloc_new w4 _
 obtain ⟨w5,hw5⟩:∃ z,z = w4.alloc (.cells cs 80):=⟨_,rfl⟩
 rw [← hw5] at b5 c5 ⊢
 rw [s1] at m2;rw [s2,s1] at m3;rw [s3,s2,s1] at m4;rw [s4,s3,s2,s1] at c5
 have b25:=b2.trans ((b3.trans ((b4.trans (b5.mono b4.size)).mono b3.size)).mono b2.size)
 refine ⟨⟨w.heap.size + 1 + 1 + 1 + 1,w.heap.size,w.heap.size + 1,w.heap.size + 1 + 1,w.heap.size + 1 + 1 + 1⟩,rfl,?_,b1.trans (b25.mono b1.size)⟩
 refine ⟨hcs ▸ c5,m1.below b25,m2.below (b3.trans ((b4.trans (b5.mono b4.size)).mono b3.size)),m3.below (b4.trans (b5.mono b4.size)),m4.below b5,⟨rfl,fun i x hx=>?_⟩,⟨rfl,fun i x hx=>?_⟩,⟨rfl,fun i q hq=>?_,fun i j p q u v hi=>?_,fun q hq=>?_⟩,?_,?_⟩
 ·simp [DagN.new] at hx
 ·simp [DagN.new] at hx
 ·simp at hq
 ·simp at hi
 ·cases hq
 ·refine ⟨?_,?_,?_,?_,?_⟩ <;> refine hX _ ?_ <;> simp only [] <;> omega
 ·refine ⟨?_,?_,?_,?_,?_,?_⟩ <;> simp only [] <;> omega
theorem z5z {X:Nat → Prop} {B:Bs} {T:Ents} {s:DagN} {hs:List (List Nat)} {M:Bh} {w:World} (h:SetAt X B T s hs M w) (hD:DInv s hs M [] []) (hb:s.ops.length ≤ 100000) :
 Calls Tryz.prog 23 #[.pointer (some ⟨B.gs,0,none⟩)] w fun e w'=>∃ v,e = .returned v ∧ OwnI w.heap.size 25 v (z19 s) w' ∧ Below w.heap.size w w':=by
 have hln:(z58 hs).length ≤ 100000:=by
  rw [z58,List.length_map,(z63 hD).length_eq]
  exact Nat.le_trans (List.length_filter_le _ _) (by rw [DagN.names,List.length_map];exact hb)
 have HE:=Shut.mk (show z0e ((z58 hs).map (·.1)) = z19 s by rw [zgs];exact zgr hD (fun x hx=>by
  have h1:=h.hm.ok (x,.agg #[]) (List.mem_map.2 ⟨x,hx,rfl⟩)
  exact h1.1))
 have HA:=Lib.hid (zen B.h _ w h.hm hln)
 have c0:=h.cell.2.2.1
 clear h hb hln hD
 go_enter Tryz.func23,Tryz.ntmps23
 go_wp2_with (refine HA.out.mono ?_;rintro e w3 ⟨v,rfl,ho,hb3⟩)
 go_ret
 exact ⟨v,rfl,by rw [← HE.out];exact ho,hb3⟩
theorem z71 {X:Nat → Prop} {B:Bs} {T:Ents} {s:DagN} {hs:List (List Nat)} {M:Bh} {w:World} (h:SetAt X B T s hs M w) (hb:s.wait.length ≤ 100000) :
 Calls Tryz.prog 24 #[.pointer (some ⟨B.gs,0,none⟩)] w fun e w'=>∃ v,e = .returned v ∧ OwnI w.heap.size 25 v (z0e s.waits) w' ∧ Below w.heap.size w w':=by
 have hln:T.w.length ≤ 100000:=by rw [h.wait.1];exact hb
 have HE:=Shut.mk (show z0e (T.w.map (·.1)) = z0e s.waits by rw [h.wait.keys];rfl)
 have HA:=Lib.hid (z9r B.w _ w h.wm hln)
 have c0:=h.cell.2.1
 clear h hb hln
 go_enter Tryz.func24,Tryz.ntmps24
 go_wp2_with (refine HA.out.mono ?_;rintro e w3 ⟨v,rfl,ho,hb3⟩)
 go_ret
 exact ⟨v,rfl,by rw [← HE.out];exact ho,hb3⟩
theorem zhd (o:OpN) (hr:o.d.ref.length = 32) (pa:Option Addr) (pc:Nat):Tryz.prog.built 38 [(0,.agg (z0d o.d)),(1,.int .i64 o.author),(2,.int .i64 o.depth),(3,.slice pa o.preds.length pc)] = some (opV o pa pc):=by
 rw [zdw]
 refine (z3p z8p 0 0 35 _ _ [] (z18 z8d) [.int .i64 0,.int .i64 0,.slice none 0 0] (z18 o.d) rfl rfl (z0s hr) rfl rfl).trans ?_
 refine (z3p z8p 1 35 1 _ _ (z18 o.d) [.int .i64 0] [.int .i64 0,.slice none 0 0] [.int .i64 o.author] rfl rfl rfl rfl (z0s hr)).trans ?_
 show Instr.fill _ (z18 o.d ++ ([Value.int .i64 o.author] ++ ([Value.int .i64 0] ++ [Value.slice none 0 0]))).toArray _ = _
 rw [← List.append_assoc]
 refine ((z3p z8p 2 36 1 (.int .i64 o.depth) _ (z18 o.d ++ [.int .i64 o.author]) [.int .i64 0] [.slice none 0 0] [.int .i64 o.depth] rfl rfl rfl rfl (by rw [List.length_append,z0s hr];rfl)).trans ?_)
 show Instr.fill _ (z18 o.d ++ [Value.int .i64 o.author] ++ ([Value.int .i64 o.depth] ++ ([Value.slice none 0 0] ++ []))).toArray _ = _
 rw [← List.append_assoc]
 refine ((z3p z8p 3 37 1 (.slice pa o.preds.length pc) [] (z18 o.d ++ [.int .i64 o.author] ++ [.int .i64 o.depth]) [.slice none 0 0] [] [.slice pa o.preds.length pc] rfl rfl rfl rfl (by rw [List.length_append,List.length_append,z0s hr];rfl)).trans ?_)
 rw [zba,opV,opL]
 simp
theorem zbv (X:Nat → Prop) (B:Bs) (T:Ents) (s:DagN) (hs:List (List Nat)) (M:Bh) (A:Int) (d:DraftN) (w:World) (h:SetAt X B T s hs M w) (hD:DInv s hs M [] []) (hd:IdOk d.ref) (hk:d.key.length ≤ 140737488351232) (hv:d.val.length ≤ 140737488351232) (ht:Tame s) :
 Calls Tryz.prog 17 #[.pointer (some ⟨B.gs,0,none⟩),.int .i64 A,.agg (z0d d)] w fun e w'=>NextPost w.heap.size (z2a s A d) e w' ∧ Below w.heap.size w w':=by
 have HS:=Lib.hid (show (Tryz.prog.info? 38).map (·.size) = some (opV z05 none 0).size from Tryz.sizeO)
 have x1:Cells w.heap.size 27 (z0d d) (w.alloc (.cells (z0d d) 27)):=heap_alloc_new w _
 have b1:Below w.heap.size w (w.alloc (.cells (z0d d) 27)):=(Below.refl _ _).alloc (Nat.le_refl _) _
 have s1:(w.alloc (.cells (z0d d) 27)).heap.size = w.heap.size + 1:=World.size_alloc _ _
 have b2:Below (w.alloc (.cells (z0d d) 27)).heap.size (w.alloc (.cells (z0d d) 27)) ((w.alloc (.cells (z0d d) 27)).alloc (.cells (opV z05 none 0) 38)):=(Below.refl _ _).alloc (Nat.le_refl _) _
 have x2:Cells (w.alloc (.cells (z0d d) 27)).heap.size 38 (opV z05 none 0) ((w.alloc (.cells (z0d d) 27)).alloc (.cells (opV z05 none 0) 38)):=heap_alloc_new _ _
 rw [s1] at x2
 have y1:=x1.below b2
 have hb2:=b1.trans (b2.mono b1.size)
 have HSD:=Lib.hid (show (Tryz.prog.info? 27).map (·.size) = some (z0d d).size by rw [z5a hd.1];exact Tryz.sizeD)
 have HGD:=Lib.hid (fun w'=>z7j d hd hk hv w')
 have HST:=Lib.hid (fun w' (b:Below w.heap.size w w')=>h.below b)
 have HDI:=Lib.hid hD
 have HD:=Lib.hid hd
 have HTM:=Lib.hid ht
 have HHL:=Shut.mk (show (z19 s).length = hs.length from zha hD)
 have hln:hs.length ≤ 1000:=by
  rw [(z63 hD).length_eq]
  exact Nat.le_trans (List.length_filter_le _ _) (by rw [DagN.names,List.length_map];have:=ht.many;omega)
 have HLN:=Lib.hid hln
 clear h hD hd hk hv ht x1 b1 s1 b2 hln
 go_enter Tryz.func17,Tryz.ntmps17
 go_upto_region 1 with (fail)
 obtain ⟨w2,hw2⟩:∃ x,x = (w.alloc (.cells (z0d d) 27)).alloc (.cells (opV z05 none 0) 38):=⟨_,rfl⟩
 rw [← hw2] at x2 y1 hb2
 rw [z5w] at hw2
 rw [← hw2]
 have HX:=Lib.hid x2
 have HY:=Lib.hid y1
 have HB:=Lib.hid hb2
 clear hw2 x2 y1 hb2
 go_wp2_with (first
  | (refine z00 rfl 27 (.tmp 5) rfl w.heap.size (z0d d) 27 _ rfl HY.out Tryz.underlying27 rfl HSD.out ?_))
 refine (HGD.out w2).mono ?_
 rintro e w3 ⟨rfl,hb3⟩
 have HX3:=Lib.hid (HX.out.below hb3)
 have HX3L:=Lib.hid HX3.out.lt
 have HY3:=Lib.hid (HY.out.below hb3)
 have HB3:=Lib.hid (HB.out.trans (hb3.mono HB.out.size))
 clear hb3 HX HY HB HGD
 by_cases hg:GoodD d ∧ 0 ≤ A ∧ A ≤ 4
 ·rw [decide_eq_true hg.1]
  obtain ⟨hg1,hg2,hg3⟩:=hg
  have HGG:=Lib.hid (show ¬ (¬ GoodD d ∨ A < 0 ∨ 4 < A) by rintro (h | h | h) <;> first | exact h hg1 | omega)
  have hg4:¬ 5 ≤ A:=by omega
  have hg5:¬ A < 0:=by omega
  have c2:=(HST.out w3 HB3.out).cell.2.2.1
  have HM:=Lib.hid (HST.out w3 HB3.out).hm
  obtain ⟨HE,hHE⟩:∃ HE,z58 hs = HE:=⟨_,rfl⟩
  have hhl:HE.length = hs.length:=by rw [← hHE,z58,List.length_map]
  rw [hHE] at HM
  clear hHE hg1
  by_cases hlong:32 < hs.length
  ·have HR:=Shut.mk (show z2a s A d = (none,3) by rw [z2a,if_neg HGG.out,if_pos (by rw [HHL.out];exact hlong)])
   have hl1:(32:Int) < (hs.length:Int):=by omega
   rw [← hhl] at hl1
   clear hlong hhl
   go_upto_region 6 with (refine z6y rfl _ _ 25 92 rfl Tryz.underlying77 B.h HE HM.out rfl ?_)
   clear c2
   refine wp_region_lit ?_
   refine z0r rfl 38 #[] rfl [] _ (by simp) z26 ?_
   simp only [Act.put,zS,zA,zB]
   refine z01 rfl 38 _ _ rfl rfl (w.heap.size + 1) (opV z05 none 0) (opV z05 none 0) 38 rfl rfl HX3.out HS.out rfl (z0z z05 none 0) ?_
   intro w9 hc hb
   have HX9:=Lib.hid hc.out
   have HB9:=Lib.hid (show Below w.heap.size w w9 from But.toBelow HB3.out hb.out (Nat.le_succ _) HB3.out.size)
   clear hc hb HX3 HB3
   go_wp2_with fail
   refine bodyPost_ret (z0p rfl _ _ (w.heap.size + 1) (opV z05 none 0) 38 _ _ rfl rfl HX9.out Tryz.underlying38 rfl HS.out) rfl ?_
   exact ⟨by rw [HR.out];exact ⟨none,0,rfl,.inl rfl,fun a h=>by cases h⟩,HB9.out⟩
  ·have HR:=Shut.mk (show z2a s A d = (some ⟨d,A,z4a s.ops (z19 s) + 1,z19 s⟩,0) by rw [z2a,if_neg HGG.out,if_neg (by rw [HHL.out];exact hlong)])
   have hl1:¬ (32:Int) < (hs.length:Int):=by omega
   rw [← hhl] at hl1
   have HHC:=Lib.hid (z5z (HST.out w3 HB3.out) HDI.out (by have:=HTM.out.many;omega))
   obtain ⟨H,hH⟩:∃ H,z19 s = H:=⟨_,rfl⟩
   have HHI:=Lib.hid (show Ids H from hH ▸ z15 (L:=s.names.filter fun n=>!(s.ops.any fun o=>decide (n ∈ o.preds))) (fun x hx=>z12 x (List.mem_filter.1 hx).1))
   rw [hH] at HR HHC HHL
   clear hlong hhl hH
   go_wp2_with (first
    | (refine z6y rfl _ _ 25 92 rfl Tryz.underlying77 B.h HE HM.out rfl ?_)
    | (refine HHC.out.mono ?_;rintro e w4 ⟨v,rfl,ho,hb4⟩))
   have HB4:=Lib.hid (HB3.out.trans (hb4.mono HB3.out.size))
   have HX4:=Lib.hid (HX3.out.below hb4)
   have HY4:=Lib.hid (HY3.out.below hb4)
   obtain ⟨ah,ch,rfl⟩:=ho.form
   have HO4:=Lib.hid ho
   have HDP:=Lib.hid (fun w' (b:Below w4.heap.size w4 w')=>zde X B T s hs M H ah H.length ch w' (HST.out w' (HB4.out.trans (b.mono HB4.out.size))) HHI.out ((ho.below b).at HHI.out) rfl (by have:=HHL.out;have:=HLN.out;omega) (fun x hx=>(HTM.out.ops x hx).d.ref.1) HTM.out.shallow (by have:=HTM.out.many;omega))
   have HYC:=Lib.hid (fun w' (b:Below w4.heap.size w4 w')=>HY4.out.below b)
   obtain ⟨De,hDe⟩:∃ q,z4a s.ops H + 1 = q:=⟨_,rfl⟩
   rw [hDe] at HR HDP
   have HBL:=Lib.hid (zhd ⟨d,A,De,H⟩ HD.out.1 ah ch)
   have HSV:=Lib.hid (show (Tryz.prog.info? 38).map (·.size) = some (opV ⟨d,A,De,H⟩ ah ch).size by rw [z07 HD.out.1];exact Tryz.sizeO)
   have HSZ:=Lib.hid (show (opV z05 none 0).size = (opV ⟨d,A,De,H⟩ ah ch).size by rw [z07 (o:=⟨d,A,De,H⟩) HD.out.1];rfl)
   clear hDe ho hb4 HX3 HY3 HM c2 hg2 hg3 hg4 hg5 hl1
   obtain ⟨z9,hz9⟩:∃ z,(decide (A < 0) || decide (5 ≤ A)) = z:=⟨_,rfl⟩
   refine z08 (fun w'=>Below w4.heap.size w4 w') 7 (by kernel_rfl) (by kernel_rfl) (Below.refl _ _).drew ?_
   simp only [zC,zD,zE,zF]
   repeat (first
    | (go_big_quiet_want;refine z0n 27 _ rfl w.heap.size (z0d d) 27 _ rfl HYC.out Tryz.underlying27 rfl HSD.out ?_;go_big_quiet_on;simp only [Act.put,zS,zA,zB])
    | (go_big_quiet_want;refine z3v 38 _ rfl [(0,.agg (z0d d)),(1,.int .i64 A),(2,.int .i64 De),(3,.slice ah H.length ch)] (opV ⟨d,A,De,H⟩ ah ch) (by rw [List.map_toArray];rfl) HBL.out ?_;go_big_quiet_on;simp only [Act.put,zS,zA,zB])
    | go_big_quiet_step ((intro hs';first
     | (go_at_call 58;exact (HDP.out _ hs').mono fun e w' h=>⟨h.1,hs'.trans (h.2.mono hs'.size)⟩)
     | rfl)))
   refine wpQuiet_nil ?_
   intro w5 hs5
   have HX5:=Lib.hid (HX4.out.below hs5)
   have HB5:=Lib.hid (HB4.out.trans (hs5.mono HB4.out.size))
   have HO5:=Lib.hid (HO4.out.below hs5)
   clear hs5 HX4 HY4 HO4 HYC HDP
   refine z01 rfl 38 _ _ rfl rfl (w.heap.size + 1) (opV z05 none 0) (opV ⟨d,A,De,H⟩ ah ch) 38 rfl rfl HX5.out HSV.out HSZ.out (z0z _ ah ch) ?_
   intro w9 hc hb
   have HX9:=Lib.hid hc.out
   have HB9:=Lib.hid (show Below w.heap.size w w9 from But.toBelow HB5.out hb.out (Nat.le_succ _) HB5.out.size)
   have HO9:=Lib.hid (HO5.out.but hb.out (fun k hk e=>by
    have h1:=(World.ownsRow.lt HO5.out k hk).1
    have h2:=HX3L.out
    omega))
   clear hc hb HX5 HB5
   go_wp2_with fail
   refine bodyPost_ret (z0p rfl _ _ (w.heap.size + 1) (opV ⟨d,A,De,H⟩ ah ch) 38 _ _ rfl rfl HX9.out Tryz.underlying38 rfl HSV.out) rfl ?_
   exact ⟨by rw [HR.out];exact ⟨ah,ch,rfl,HO9.out.at HHI.out,fun a h=>(by
    have h1:=(World.ownsRow.lt HO9.out a.block (by subst h;rfl)).1
    exact Nat.le_trans HB3.out.size h1)⟩,HB9.out⟩
 ·have HR:=Shut.mk (show z2a s A d = (none,1) by
   rw [z2a,if_pos]
   by_cases h1:GoodD d
   ·rcases Int.lt_or_le A 0 with h2 | h2
    ·exact .inr (.inl h2)
    ·refine .inr (.inr ?_)
     rcases Int.lt_or_le 4 A with h3 | h3
     ·exact h3
     ·exact absurd ⟨h1,h2,h3⟩ hg
   ·exact .inl h1)
  obtain ⟨gb,hgb⟩:∃ gb,decide (GoodD d) = gb:=⟨_,rfl⟩
  have HCA:=Lib.hid (show gb = true → 0 ≤ A → 5 ≤ A from fun h1 h2=>by
   have h1':GoodD d:=of_decide_eq_true (hgb.trans h1)
   rcases Int.lt_or_le 4 A with h3 | h3
   ·omega
   ·exact absurd ⟨h1',h2,h3⟩ hg)
  rw [hgb]
  clear hg hgb
  cases gb with
  | false =>
    go_upto_region 4 with (fail)
    refine wp_region_lit ?_
    refine z0r rfl 38 #[] rfl [] _ (by simp) z26 ?_
    simp only [Act.put,zS,zA,zB]
    refine z01 rfl 38 _ _ rfl rfl (w.heap.size + 1) (opV z05 none 0) (opV z05 none 0) 38 rfl rfl HX3.out HS.out rfl (z0z z05 none 0) ?_
    intro w9 hc hb
    have HX9:=Lib.hid hc.out
    have HB9:=Lib.hid (show Below w.heap.size w w9 from But.toBelow HB3.out hb.out (Nat.le_succ _) HB3.out.size)
    clear hc hb HX3 HB3
    go_wp2_with fail
    refine bodyPost_ret (z0p rfl _ _ (w.heap.size + 1) (opV z05 none 0) 38 _ _ rfl rfl HX9.out Tryz.underlying38 rfl HS.out) rfl ?_
    exact ⟨by rw [HR.out];exact ⟨none,0,rfl,.inl rfl,fun a h=>by cases h⟩,HB9.out⟩
  | true =>
    by_cases hA:A < 0
    ·go_upto_region 4 with (fail)
     refine wp_region_lit ?_
     refine z0r rfl 38 #[] rfl [] _ (by simp) z26 ?_
     simp only [Act.put,zS,zA,zB]
     refine z01 rfl 38 _ _ rfl rfl (w.heap.size + 1) (opV z05 none 0) (opV z05 none 0) 38 rfl rfl HX3.out HS.out rfl (z0z z05 none 0) ?_
     intro w9 hc hb
     have HX9:=Lib.hid hc.out
     have HB9:=Lib.hid (show Below w.heap.size w w9 from But.toBelow HB3.out hb.out (Nat.le_succ _) HB3.out.size)
     clear hc hb HX3 HB3
     go_wp2_with fail
     refine bodyPost_ret (z0p rfl _ _ (w.heap.size + 1) (opV z05 none 0) 38 _ _ rfl rfl HX9.out Tryz.underlying38 rfl HS.out) rfl ?_
     exact ⟨by rw [HR.out];exact ⟨none,0,rfl,.inl rfl,fun a h=>by cases h⟩,HB9.out⟩
    ·have h5:=HCA.out rfl (by omega)
     go_upto_region 4 with (fail)
     refine wp_region_lit ?_
     refine z0r rfl 38 #[] rfl [] _ (by simp) z26 ?_
     simp only [Act.put,zS,zA,zB]
     refine z01 rfl 38 _ _ rfl rfl (w.heap.size + 1) (opV z05 none 0) (opV z05 none 0) 38 rfl rfl HX3.out HS.out rfl (z0z z05 none 0) ?_
     intro w9 hc hb
     have HX9:=Lib.hid hc.out
     have HB9:=Lib.hid (show Below w.heap.size w w9 from But.toBelow HB3.out hb.out (Nat.le_succ _) HB3.out.size)
     clear hc hb HX3 HB3
     go_wp2_with fail
     refine bodyPost_ret (z0p rfl _ _ (w.heap.size + 1) (opV z05 none 0) 38 _ _ rfl rfl HX9.out Tryz.underlying38 rfl HS.out) rfl ?_
     exact ⟨by rw [HR.out];exact ⟨none,0,rfl,.inl rfl,fun a h=>by cases h⟩,HB9.out⟩
end Go.Proofs.YtnbldbbbibpobaaGreatDoor
namespace Go.Proofs.YtnbldbbbibpobaaGreatDoor
def aD (k:Int):DraftN:=⟨k,[107],[],zeroI⟩
def aO:OpN:=⟨aD 1,1,1,[]⟩
def bO:OpN:=⟨aD 3,2,2,[z0a aO]⟩
theorem al_next1:z2a DagN.new 1 (aD 1) = (some aO,0):=by kernel_rfl
theorem al_take1:z1l DagN.new aO = ([z0a aO],0,⟨[aO],[]⟩):=by kernel_rfl
theorem al_next2:z2a ⟨[aO],[]⟩ 2 (aD 3) = (some bO,0):=by kernel_rfl
theorem al_take2:z1l DagN.new bO = ([],0,⟨[],[bO]⟩):=by kernel_rfl
theorem al_take3:z1l ⟨[],[bO]⟩ aO = ([z0a aO,z0a bO],0,⟨[aO,bO],[]⟩):=by kernel_rfl
theorem al_heads:(z19 ⟨[aO,bO],[]⟩).length = 1:=by kernel_rfl
open Go.RowKit Go.BigFrame
theorem SetAt.widen0 {X Y:Nat → Prop} {B:Bs} {w:World} (h:SetAt X B ⟨[],[],[]⟩ DagN.new [] [] w) (k:∀ b,X b → Y b):SetAt Y B ⟨[],[],[]⟩ DagN.new [] [] w :=
 ⟨h.cells,h.pm,h.wm,h.hm,h.bm,⟨rfl,fun i x hx=>by simp [DagN.new] at hx⟩,⟨rfl,fun i x hx=>by simp [DagN.new] at hx⟩,⟨rfl,fun i q hq=>by simp at hq,fun i j p q u v hi=>by simp at hi,fun q hq=>by cases hq⟩,
  ⟨k _ h.mine.1,k _ h.mine.2.1,k _ h.mine.2.2.1,k _ h.mine.2.2.2.1,k _ h.mine.2.2.2.2⟩,h.apart⟩
theorem z4b:Tame DagN.new:=⟨(fun x hx=>by cases hx),(fun x hx=>by cases hx),(fun x hx=>by cases hx),by decide⟩
theorem zfb (k:Int):Tryz.prog.built 27 [(0,.int .i64 k),(1,.string ⟨#[107]⟩)] = some (z0d (aD k)):=by
 rw [zgn]
 refine (z3p zh6 0 0 1 _ _ [] [.int .i64 0] (.string ⟨#[]⟩ :: .string ⟨#[]⟩ :: z06 .u8 zeroI) [.int .i64 k] rfl rfl rfl rfl rfl).trans ?_
 refine (z3p zh6 1 1 1 (.string ⟨#[107]⟩) [] [.int .i64 k] [.string ⟨#[]⟩] (.string ⟨#[]⟩ :: z06 .u8 zeroI) [.string ⟨#[107]⟩] rfl rfl rfl rfl rfl).trans ?_
 rw [zba]
 rfl
theorem aD_ref (k:Int):IdOk (aD k).ref:=zeroI_ok
theorem aO_fit:aO.Fit:=⟨⟨zeroI_ok,by decide,by decide,by decide,by decide⟩,by decide,by decide,by decide,by decide,(fun p hp=>by cases hp),by decide⟩
theorem bO_fit:bO.Fit:=⟨⟨zeroI_ok,by decide,by decide,by decide,by decide⟩,by decide,by decide,by decide,by decide,(fun p hp=>by rw [List.mem_singleton.1 hp];exact ⟨z1u aO,z2o aO⟩),by decide⟩
theorem zeq (w:World) (hk:KAt w):Calls Tryz.prog 10 #[] w fun e w'=>e = .returned (.bool true) ∧ Below w.heap.size w w':=by
 obtain ⟨X,hX⟩:∃ X:Nat → Prop,X = fun b=>w.heap.size ≤ b:=⟨_,rfl⟩
 have HX:=Lib.hid (show ∀ b,X b ↔ w.heap.size ≤ b from fun b=>by rw [hX])
 have HK:=Lib.hid hk
 have HZO:=Lib.hid (show (Tryz.prog.info? 38).bind (·.zero) = some (.agg (opL z05 none 0).toArray) by kernel_rfl)
 have HSV:=Lib.hid (fun (o:OpN) (h:o.d.ref.length = 32) (pa:Option Addr) (pc:Nat)=>show (Tryz.prog.info? 38).map (·.size) = some (opV o pa pc).size by rw [z07 h];exact Tryz.sizeO)
 have HSZ:=Lib.hid (fun (o:OpN) (h:o.d.ref.length = 32) (pa:Option Addr) (pc:Nat)=>show (opV z05 none 0).size = (opV o pa pc).size by rw [z07 h];rfl)
 have HAR:=Lib.hid (show aO.d.ref.length = 32 from aO_fit.d.ref.1)
 have HBR:=Lib.hid (show bO.d.ref.length = 32 from bO_fit.d.ref.1)
 clear hk hX
 go_enter Tryz.func10,Tryz.ntmps10
 go_wp2_with fail
 refine (za1 X w (fun b h=>(HX.out b).2 h)).mono ?_
 rintro e w1 ⟨B1,rfl,hs1,hb1⟩
 have HS1:=Lib.hid hs1
 have HB1:=Lib.hid hb1
 clear hs1 hb1
 go_wp2_with fail
 refine (za1 (fun b=>w1.heap.size ≤ b) w1 (fun b h=>h)).mono ?_
 rintro e w2 ⟨B2,rfl,hq2,hb2⟩
 have HQ2:=Lib.hid (hq2.widen0 (fun b h=>(HX.out b).2 (Nat.le_trans HB1.out.size h)))
 have HS2:=Lib.hid (HS1.out.below hb2)
 have HAP:=Lib.hid (show ∀ b,SetO B2 ⟨[],[],[]⟩ b → ¬ SetO B1 ⟨[],[],[]⟩ b from fun b h e=>by
  have h1:=(SetO.x hq2 h).1
  have h2:=(SetO.x HS1.out e).2
  omega)
 have HB2:=Lib.hid (HB1.out.trans (hb2.mono HB1.out.size))
 clear hq2 hb2 HS1
 go_wp2_with (refine z0r rfl 27 _ rfl [(0,.int .i64 1),(1,.string ⟨#[107]⟩)] _ (by rw [List.map_toArray];rfl) (zfb 1) ?_)
 refine (zbv X B1 ⟨[],[],[]⟩ DagN.new [] [] 1 (aD 1) w2 HS2.out DInv.new (aD_ref 1) (by decide) (by decide) z4b).mono ?_
 rintro e w3 ⟨hnx,hb3⟩
 rw [al_next1] at hnx
 obtain ⟨pa,pc,rfl,hia,_⟩:=hnx
 have hgd:(some aO).getD z05 = aO:=rfl
 simp only [hgd] at hia ⊢
 have HS3:=Lib.hid (HS2.out.below hb3)
 have HQ3:=Lib.hid (HQ2.out.below hb3)
 have HIA:=Lib.hid hia
 have HB3:=Lib.hid (HB2.out.trans (hb3.mono HB2.out.size))
 clear hgd hia hb3 HS2 HQ2
 go_wp2_with (first
  | (refine z0j rfl 38 rfl (opL z05 none 0) HZO.out ?_)
  | (refine z01 rfl 38 _ _ rfl rfl w3.heap.size (opV z05 none 0) (opV aO pa pc) 38 rfl rfl (heap_alloc_new w3 _) (HSV.out aO HAR.out pa pc) (HSZ.out aO HAR.out pa pc) (z0z aO pa pc) ?_))
 intro w4 hc4 hb4
 have hb34:Below w3.heap.size w3 w4:=But.toBelow ((Below.refl _ w3).alloc (Nat.le_refl _) _) hb4.out (Nat.le_refl _) (by rw [World.size_alloc];exact Nat.le_succ _)
 have HS4:=Lib.hid (HS3.out.below hb34)
 have HQ4:=Lib.hid (HQ3.out.below hb34)
 have HA4:=Lib.hid hc4.out
 have HB4:=Lib.hid (HB3.out.trans (hb34.mono HB3.out.size))
 have HNS:=Lib.hid (show ¬ SetO B1 ⟨[],[],[]⟩ w3.heap.size ∧ ¬ SetO B2 ⟨[],[],[]⟩ w3.heap.size from ⟨fun e=>by have:=(SetO.x HS3.out e).2;omega,fun e=>by have:=(SetO.x HQ3.out e).2;omega⟩)
 obtain ⟨ga,hga⟩:∃ g,w3.heap.size = g:=⟨_,rfl⟩
 have HGA:=Lib.hid (show w.heap.size ≤ ga from hga ▸ HB3.out.size)
 rw [hga] at HA4 HNS ⊢
 clear hc4 hb4 hb34 hga HS3 HQ3 HIA
 go_wp2_with (refine z00 rfl 38 (.tmp 3) rfl ga (opV aO pa pc) 38 _ rfl HA4.out Tryz.underlying38 rfl (HSV.out aO HAR.out pa pc) ?_)
 refine (z6a X B1 ⟨[],[],[]⟩ DagN.new [] [] aO pa pc w4 HS4.out (fun b h=>(HX.out b).2 (Nat.le_trans HB4.out.size h)) DInv.new z4b aO_fit (.inl rfl) (HK.out.below (HB4.out.mono (Nat.le_of_lt_succ (Nat.lt_succ_of_le (Nat.le_refl _))))) (by decide)).mono ?_
 rintro e w5 ⟨v5,X5,T5,hs5,M5,rfl,ho5,hset5,hd5,ht5,htu5,_,hx1,hx2,hx3⟩
 rw [al_take1] at hset5 hd5 ht5
 have HB5:=Lib.hid (Only.toBelow HB4.out htu5.only (fun b h=>(HX.out b).1 (SetO.x HS4.out h).1) HB4.out.size)
 have HQ5:=Lib.hid (HQ4.out.only htu5.only (fun b h=>(SetO.x HS4.out h).1) HAP.out)
 have HA5:=Lib.hid (HA4.out.only htu5.only HNS.out.1)
 have HS5:=Lib.hid hset5
 have HD5:=Lib.hid hd5
 have HT5:=Lib.hid ht5
 have HX5:=Lib.hid hx1
 clear hset5 hd5 ht5 ho5 htu5 hx1 hx2 hx3 HS4 HQ4 HA4
 go_wp2_with (refine z0r rfl 27 _ rfl [(0,.int .i64 3),(1,.string ⟨#[107]⟩)] _ (by rw [List.map_toArray];rfl) (zfb 3) ?_)
 refine (zbv X5 B1 T5 ⟨[aO],[]⟩ hs5 M5 2 (aD 3) w5 HS5.out HD5.out (aD_ref 3) (by decide) (by decide) HT5.out).mono ?_
 rintro e w6 ⟨hnx,hb6⟩
 rw [al_next2] at hnx
 obtain ⟨qa,qc,rfl,hia,_⟩:=hnx
 have hgd:(some bO).getD z05 = bO:=rfl
 simp only [hgd] at hia ⊢
 have HQ6:=Lib.hid (HQ5.out.below hb6)
 have HA6:=Lib.hid (HA5.out.below hb6)
 have HIA:=Lib.hid hia
 have HB6:=Lib.hid (HB5.out.trans (hb6.mono HB5.out.size))
 clear hgd hia hb6 HQ5 HA5 HS5 HD5 HT5
 go_wp2_with (first
  | (refine z0j rfl 38 rfl (opL z05 none 0) HZO.out ?_)
  | (refine z01 rfl 38 _ _ rfl rfl w6.heap.size (opV z05 none 0) (opV bO qa qc) 38 rfl rfl (heap_alloc_new w6 _) (HSV.out bO HBR.out qa qc) (HSZ.out bO HBR.out qa qc) (z0z bO qa qc) ?_))
 intro w7 hc7 hb7
 have hb67:Below w6.heap.size w6 w7:=But.toBelow ((Below.refl _ w6).alloc (Nat.le_refl _) _) hb7.out (Nat.le_refl _) (by rw [World.size_alloc];exact Nat.le_succ _)
 have HQ7:=Lib.hid (HQ6.out.below hb67)
 have HA7:=Lib.hid (HA6.out.below hb67)
 have HC7:=Lib.hid hc7.out
 have HI7:=Lib.hid (HIA.out.below hb67)
 have HB7:=Lib.hid (HB6.out.trans (hb67.mono HB6.out.size))
 obtain ⟨gb,hgb⟩:∃ g,w6.heap.size = g:=⟨_,rfl⟩
 rw [hgb] at HC7 ⊢
 clear hc7 hb7 hb67 hgb HQ6 HA6 HIA
 go_wp2_with (refine z00 rfl 38 (.tmp 5) rfl gb (opV bO qa qc) 38 _ rfl HC7.out Tryz.underlying38 rfl (HSV.out bO HBR.out qa qc) ?_)
 refine (z6a X B2 ⟨[],[],[]⟩ DagN.new [] [] bO qa qc w7 HQ7.out (fun b h=>(HX.out b).2 (Nat.le_trans HB7.out.size h)) DInv.new z4b bO_fit HI7.out (HK.out.below HB7.out) (by decide)).mono ?_
 rintro e w8 ⟨v8,X8,T8,hs8,M8,rfl,ho8,hset8,hd8,ht8,htu8,_,hx1,hx2,hx3⟩
 rw [al_take2] at hset8 hd8 ht8 ho8 ⊢
 dsimp only at ho8 ⊢
 have HB8:=Lib.hid (Only.toBelow HB7.out htu8.only (fun b h=>(HX.out b).1 (SetO.x HQ7.out h).1) HB7.out.size)
 have HA8:=Lib.hid (HA7.out.only htu8.only HNS.out.2)
 have HQ8:=Lib.hid hset8
 have HD8:=Lib.hid hd8
 have HT8:=Lib.hid ht8
 have HX8:=Lib.hid hx1
 have HX83:=Lib.hid hx3
 obtain ⟨a8,c8,rfl⟩:=ho8.form
 clear hset8 hd8 ht8 ho8 htu8 hx1 hx2 hx3 HQ7 HA7 HC7 HI7
 go_wp2_with (refine z00 rfl 38 (.tmp 3) rfl ga (opV aO pa pc) 38 _ rfl HA8.out Tryz.underlying38 rfl (HSV.out aO HAR.out pa pc) ?_)
 refine (z6a X8 B2 T8 ⟨[],[bO]⟩ hs8 M8 aO pa pc w8 HQ8.out HX83.out HD8.out HT8.out aO_fit (.inl rfl) (HK.out.below HB8.out) (by decide)).mono ?_
 rintro e w9 ⟨v9,X9,T9,hs9,M9,rfl,ho9,hset9,hd9,ht9,htu9,_,hx1,hx2,hx3⟩
 rw [al_take3] at hset9 hd9 ht9 ho9 ⊢
 dsimp only at ho9 ⊢
 have HB9:=Lib.hid (Only.toBelow HB8.out htu9.only (fun b h=>(HX.out b).1 (HX8.out b (SetO.x HQ8.out h).1)) HB8.out.size)
 have HHD:=Lib.hid (z5z hset9 hd9 (by decide))
 obtain ⟨a9,c9,rfl⟩:=ho9.form
 clear hset9 hd9 ht9 ho9 htu9 hx1 hx2 hx3 HQ8 HD8 HT8
 go_wp2_with fail
 refine HHD.out.mono ?_
 rintro e w10 ⟨v10,rfl,ho10,hb10⟩
 obtain ⟨a10,c10,rfl⟩:=ho10.form
 rw [al_heads]
 have HB10:=Lib.hid (HB9.out.trans (hb10.mono HB9.out.size))
 clear ho10 hb10 HHD
 go_wp2_with fail
 go_ret
 exact ⟨rfl,HB10.out⟩
end Go.Proofs.YtnbldbbbibpobaaGreatDoor
namespace Go.Proofs.YtnbldbbbibpobaaGreatDoor
open Go.ChangeShapes Go.WideShapes Go.ChangeAt Go.RowKit
theorem gK : Tryz.prog.globalNamed "tribunal/sha.roundConstants" = some 0 := by kernel_rfl
theorem gKType:(Tryz.prog.globals[0]?).map (·.type) = some 195:=by kernel_rfl
theorem cellsK:Tryz.prog.cellsOf 195 = 64:=by kernel_rfl
theorem cellsU32:Tryz.prog.cellsOf 143 = 1:=by kernel_rfl
def kInts:List Int:=shaK.map fun (n:Nat)=>(n:Int)
theorem zi5 {W : World} (h : laidMetH Tryz.prog [("tribunal/sha.roundConstants", Rows.laid_tribunal_sha_roundConstants)] W) : KAt W := by
 have ht : Lib.TabIs Tryz.prog W "tribunal/sha.roundConstants" .u32 kInts := Lib.tabIs_of_head (rest := []) gK gKType Tryz.underlying195 Tryz.underlying143 cellsU32 cellsK h
 intro j hj
 have hc:=ht.cell gK j (by unfold kInts;rw [List.length_map,shaK_len];exact hj)
 rw [hc]
 have e:kInts.getD j 0 = ((shaK.getD j 0:Nat):Int):=by
  unfold kInts
  rw [List.getD_eq_getElem?_getD,List.getElem?_map,List.getD_eq_getElem?_getD,List.getElem?_eq_getElem (by rw [shaK_len];exact hj)]
  rfl
 rw [e]
noncomputable def z2p (os:Os):World :=
 { World.holding Tryz.prog os ⟨#[],#[],[]⟩ with heap:=(World.holding Tryz.prog os ⟨#[],#[],[]⟩).heap.modify 0 fun
  | .cells _ t frozen=>.cells (z06 .u32 shaK).toArray t frozen
  | o=>o }
end Go.Proofs.YtnbldbbbibpobaaGreatDoor
