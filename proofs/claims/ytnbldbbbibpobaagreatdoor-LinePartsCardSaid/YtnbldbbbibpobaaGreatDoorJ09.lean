/-
  Joined: The developers' knows. Written by dag/gen/gen_know.py.; The document's At, waiting, whole: a set is looked through.; The document's Depth.; The developers' depth and fits.; A row behind a name grows, in a map: what holds while the statement's operations come up in whatever order.
-/
import Derived.Test.YtnbldbbbibpobaaGreatDoorJ04
import Derived.Test.YtnbldbbbibpobaaGreatDoorJ06
import Derived.Test.YtnbldbbbibpobaaGreatDoorJ08
set_option maxRecDepth 100000
set_option maxHeartbeats 4000000
namespace Go.Proofs.YtnbldbbbibpobaaGreatDoor
open Go.RowKit Go.BigFrame
theorem z47 {X:Nat → Prop} {L:List OpN} {E:List (List Nat × Value)} {w:World} (h:EntsO X L E w) (hd:(E.map (·.1)).Nodup) (hr:∀ x ∈ L,x.d.ref.length = 32) (n:List Nat) :
 ∃ x pa pc, atE E (.agg (opV z05 none 0)) n = .agg (opV x pa pc) ∧ decide (n ∈ E.map (·.1)) = decide (n ∈ L.map z00) ∧ x.d.ref.length = 32 ∧ IAt pa x.preds w ∧
   ((n ∈ L.map z00 ∧ x ∈ L ∧ z00 x = n ∧ OffX X pa x.preds ∧ E.lookup n = some (Value.agg (opV x pa pc)) ∧ ∃ i:Nat,L[i]? = some x ∧ E[i]? = some (n,Value.agg (opV x pa pc))) ∨ (n ∉ L.map z00 ∧ x = z05 ∧ pa = none ∧ pc = 0)):=by
 rw [h.keys]
 by_cases hn:n ∈ L.map z00
 ·obtain ⟨x,hx,rfl⟩:=List.mem_map.1 hn
  obtain ⟨i,hi,he⟩:=List.getElem_of_mem hx
  have hix:L[i]? = some x:=by rw [List.getElem?_eq_getElem hi,he]
  obtain ⟨pa,pc,h1,h2,h3,h4⟩:=h.here hd hix
  exact ⟨x,pa,pc,by rw [atE,h2];rfl,rfl,hr x hx,h3,.inl ⟨hn,hx,rfl,h4,h2,i,hix,h1⟩⟩
 ·exact ⟨z05,none,0,by rw [atE,h.not hn];rfl,rfl,rfl,.inl rfl,.inr ⟨hn,rfl,rfl,rfl⟩⟩
theorem zbl (x:OpN) (pa:Option Addr) (pc:Nat):(opV x pa pc).all (·.oneCell') = true:=z1i x pa pc
theorem zkj (X:Nat → Prop) (B:Bs) (T:Ents) (s:DagN) (hs:List (List Nat)) (M:Bh) (n:List Nat) (w:World) (h:SetAt X B T s hs M w) (hn:IdOk n) (hro:∀ x ∈ s.ops,x.d.ref.length = 32) (hrw:∀ x ∈ s.wait,x.d.ref.length = 32) :
 Calls Tryz.prog 44 #[.pointer (some ⟨B.gs,0,none⟩),.agg (z07 .u8 n).toArray] w fun e w'=>e = .returned (.bool (decide (n ∈ s.names) || decide (n ∈ s.waits))) ∧ Below w.heap.size w w':=by
 obtain ⟨x,pa,pc,e1,e2,e3,_⟩:=z47 h.ops h.pm.nodup hro n
 obtain ⟨y,qa,qc,f1,f2,f3,_⟩:=z47 h.wait h.wm.nodup hrw n
 have b1:Below w.heap.size w (w.alloc (.cells (z07 .u8 n).toArray 25)):=(Below.refl _ _).alloc (Nat.le_refl _) _
 have x1:Blk w.heap.size 25 .u8 n (w.alloc (.cells (z07 .u8 n).toArray 25)):=heap_alloc_new w _
 have HB:=Lib.hid b1
 have HC0:=Lib.hid x1
 have HS0:=Lib.hid (h.below b1)
 have HN:=Lib.hid hn
 have HSN:=Lib.hid (show (Tryz.prog.info? 25).map (·.size) = some n.length by rw [hn.1];exact Tryz.sizeI)
 obtain ⟨pb,hp⟩:∃ p,decide (n ∈ s.names) = p:=⟨_,rfl⟩
 obtain ⟨qb,hq⟩:∃ q,decide (n ∈ s.waits) = q:=⟨_,rfl⟩
 rw [hp,hq]
 rw [show decide (n ∈ s.ops.map z00) = pb from hp] at e2
 rw [show decide (n ∈ s.wait.map z00) = qb from hq] at f2
 obtain ⟨Z1,hZ1⟩:∃ Z,opV x pa pc = Z:=⟨_,rfl⟩
 obtain ⟨Z2,hZ2⟩:∃ Z,opV y qa qc = Z:=⟨_,rfl⟩
 have HE1:=Shut.mk (show Value.tuple #[atE T.p (.agg (opV z05 none 0)) n,.bool (decide (n ∈ T.p.map (·.1)))] = .tuple #[.agg Z1,.bool pb] by rw [e1,e2,hZ1])
 have HE2:=Shut.mk (show Value.tuple #[atE T.w (.agg (opV z05 none 0)) n,.bool (decide (n ∈ T.w.map (·.1)))] = .tuple #[.agg Z2,.bool qb] by rw [f1,f2,hZ2])
 have HI1:=Lib.hid (show (Tryz.prog.info? 38).map (·.size) = some Z1.size by rw [← hZ1,z0b e3];exact Tryz.sizeO)
 have HI2:=Lib.hid (show (Tryz.prog.info? 38).map (·.size) = some Z2.size by rw [← hZ2,z0b f3];exact Tryz.sizeO)
 have HL1:=Lib.hid (show (opV z05 none 0).size = Z1.size by rw [← hZ1,z0b e3];rfl)
 have HL2:=Lib.hid (show (opV z05 none 0).size = Z2.size by rw [← hZ2,z0b f3];rfl)
 have HA1:=Lib.hid (show Z1.all (·.oneCell') = true by rw [← hZ1];exact zbl _ _ _)
 have HA2:=Lib.hid (show Z2.all (·.oneCell') = true by rw [← hZ2];exact zbl _ _ _)
 clear h b1 x1 hn e1 e2 e3 f1 f2 f3 hro hrw hZ1 hZ2 hp hq
 go_enter Tryz.func44,Tryz.ntmps44
 go_upto_region 1 with (fail)
 obtain ⟨w1,hw1⟩:∃ x,x = w.alloc (.cells (z07 .u8 n).toArray 25):=⟨_,rfl⟩
 rw [← hw1] at HB HC0 HS0 ⊢
 clear hw1
 refine z0e 11 (fun q V w'=>Val q V 0 (.pointer (some ⟨B.gs,0,none⟩)) ∧ Val q V 1 (.pointer (some ⟨B.gs,0,none⟩)) ∧ Val q V 2 (.pointer (some ⟨B.gs,0,none⟩)) ∧ Val q V 3 (.map (some B.p)) ∧ Val q V 4 (.agg (z07 .u8 n).toArray) ∧ Val q V 5 (.tuple #[.agg Z1,.bool pb]) ∧ Val q V 6 (.tuple #[.agg Z1,.bool pb]) ∧ Val q V 7 (.agg Z1) ∧ Val q V 8 (.bool pb) ∧ PutC q V w1.heap.size 9 10 38 (opV z05 none 0) (Z1) w' ∧ Below w1.heap.size w1 w' ∧ Late q 9 10) (fun _=>undef) (by kernel_rfl) (by kernel_rfl) (by kernel_rfl) (by simp only [zC,zD,z0h,Act.put,zS,zA,zB]) ⟨Val.none,Val.none,Val.none,Val.none,Val.none,Val.none,Val.none,Val.none,Val.none,PutC.none,(Below.refl _ _).drew,Late.none⟩ ?_ ?_
 ·simp only [zC,zD,z0h,Nat.zero_add,Nat.reduceAdd,Act.put,zS,zA,zB]
  refine zQc ?_ (zQc ?_ (zQc ?_ (zQc ?_ (zQc ?_ (zQc ?_ (zQc ?_ (zQc ?_ (zQc ?_ (zQc ?_ (zQc ?_ (zQn)))))))))))
  all_goals (refine zQf rfl ?_;rintro q V wq hr hu ⟨h0,h1,h2,h3,h4,h5,h6,h7,h8,h9,hb,hl9⟩ K hK)
  ·exact z0f (.tmp 0) rfl _ rfl (hK _ _ ⟨.same,h1.nd,h2.nd,h3.nd,h4.nd,h5.nd,h6.nd,h7.nd,h8.nd,h9.ne (by decide) (by decide) (Below.refl _ _),hb,hl9.nd⟩)
  ·exact z0l (.tmp 10) rfl ⟨B.gs,0,none⟩ (h0 (hr { on:=0,ground:=.data } (by simp) rfl)) (hK _ _ ⟨h0.nd,.same,h2.nd,h3.nd,h4.nd,h5.nd,h6.nd,h7.nd,h8.nd,h9.ne (by decide) (by decide) (Below.refl _ _),hb,hl9.nd⟩)
  ·exact z0m 80 (.tmp 11) 0 rfl _ _ (h1 (hr { on:=1,ground:=.data } (by simp) rfl)) (z5p B.gs 0 (by decide)) (hK _ _ ⟨h0.nd,h1.nd,.same,h3.nd,h4.nd,h5.nd,h6.nd,h7.nd,h8.nd,h9.ne (by decide) (by decide) (Below.refl _ _),hb,hl9.nd⟩)
  ·exact z0n 76 (.tmp 12) rfl _ _ (h2 (hr { on:=2,ground:=.data } (by simp) rfl)) (HS0.out.below hb).cell.1 Tryz.isAgg76 (hK _ _ ⟨h0.nd,h1.nd,h2.nd,.same,h4.nd,h5.nd,h6.nd,h7.nd,h8.nd,h9.ne (by decide) (by decide) (Below.refl _ _),hb,hl9.nd⟩)
  ·exact z1k 25 (.tmp 3) rfl w.heap.size .u8 n 25 _ rfl (HC0.out.below hb) Tryz.underlying25 rfl HSN.out (hK _ _ ⟨h0.nd,h1.nd,h2.nd,h3.nd,.same,h5.nd,h6.nd,h7.nd,h8.nd,h9.ne (by decide) (by decide) (Below.refl _ _),hb,hl9.nd⟩)
  ·exact z3x (.tmp 13) (.tmp 14) 76 25 38 true rfl Tryz.idKey Tryz.underlying76 (.agg (opV z05 none 0)) (z6m wq) B.p T.p (HS0.out.below hb).pm n HN.out (h3 (hr { on:=3,ground:=.data } (by simp) rfl)) (h4 (hr { on:=4,ground:=.data } (by simp) rfl)) _ (by rw [HE1.out];rfl) (hK _ _ ⟨h0.nd,h1.nd,h2.nd,h3.nd,h4.nd,.same,h6.nd,h7.nd,h8.nd,h9.ne (by decide) (by decide) (Below.refl _ _),hb,hl9.nd⟩)
  ·exact z0f (.tmp 15) rfl _ (h5 (hr { on:=5,ground:=.data } (by simp) rfl)) (hK _ _ ⟨h0.nd,h1.nd,h2.nd,h3.nd,h4.nd,h5.nd,.same,h7.nd,h8.nd,h9.ne (by decide) (by decide) (Below.refl _ _),hb,hl9.nd⟩)
  ·exact z2b (.tmp 9) 0 rfl _ _ (h6 (hr { on:=6,ground:=.data } (by simp) rfl)) (zah _ _) (hK _ _ ⟨h0.nd,h1.nd,h2.nd,h3.nd,h4.nd,h5.nd,h6.nd,.same,h8.nd,h9.ne (by decide) (by decide) (Below.refl _ _),hb,hl9.nd⟩)
  ·exact z2b (.tmp 9) 1 rfl _ _ (h6 (hr { on:=6,ground:=.data } (by simp) rfl)) (zak _ _) (hK _ _ ⟨h0.nd,h1.nd,h2.nd,h3.nd,h4.nd,h5.nd,h6.nd,h7.nd,.same,h9.ne (by decide) (by decide) (Below.refl _ _),hb,hl9.nd⟩)
  ·exact z3i 38 rfl (opV z05 none 0) z5g (hK _ _ ⟨h0.nd,h1.nd,h2.nd,h3.nd,h4.nd,h5.nd,h6.nd,h7.nd,h8.nd,PutC.made hb.size (hl9.not hu) (by decide),hb.alloc hb.size _,hl9.nd⟩)
  ·obtain ⟨g,hV,hg0,hc0⟩:=h9 (hr { on:=9,ground:=.data } (by simp) rfl)
   rw [if_neg (by rw [hu];decide)] at hc0
   refine z2c 38 (.tmp 5) (.tmp 16) rfl g _ (Z1) 38 hV (h7 (hr { on:=7,ground:=.data } (by simp) rfl)) hc0 HI1.out HL1.out HA1.out ?_
   intro w' hc' hbt
   have hbn:=But.toBelow hb hbt hg0 hb.size
   exact (hK _ _ ⟨h0.nd,h1.nd,h2.nd,h3.nd,h4.nd,h5.nd,h6.nd,h7.nd,h8.nd,PutC.stored hV hg0 (by decide) hc',hbn,Late.same (hr { on:=9,ground:=.data } (by simp) rfl)⟩)
 rintro q V wq hall ⟨h0,h1,h2,h3,h4,h5,h6,h7,h8,h9,hb,hl9⟩
 have v0:=h0 (hall 0 (by decide))
 have v1:=h1 (hall 1 (by decide))
 have v2:=h2 (hall 2 (by decide))
 have v3:=h3 (hall 3 (by decide))
 have v4:=h4 (hall 4 (by decide))
 have v5:=h5 (hall 5 (by decide))
 have v6:=h6 (hall 6 (by decide))
 have v7:=h7 (hall 7 (by decide))
 have v8:=h8 (hall 8 (by decide))
 obtain ⟨g9,v9,hg9,hc9⟩:=h9 (hall 9 (by decide))
 rw [if_pos (hall 10 (by decide))] at hc9
 obtain ⟨u10,v10⟩:∃ v,V 10 = v:=⟨_,rfl⟩
 simp only [zC,zD,zE,zF,z0h,Nat.zero_add,Nat.reduceAdd,v0,v1,v2,v3,v4,v5,v6,v7,v8,v9,Act.put,zS,zA,zB]
 clear h0 h1 h2 h3 h4 h5 h6 h7 h8 v0 v1 v2 v3 v4 v5 v6 v7 v8 v9 v10 hall hl9
 have HC2:=Lib.hid (HC0.out.below hb)
 have HS2:=Lib.hid (HS0.out.below hb)
 have HB2:=Lib.hid (HB.out.trans (hb.mono HB.out.size))
 clear hb hc9 hg9 HC0 HS0 HB
 obtain ⟨w2,hw2⟩:∃ x,x = wq:=⟨_,rfl⟩
 rw [← hw2] at HC2 HS2 HB2 ⊢
 clear hw2
 cases pb with
 | true =>
   go_wp2_with fail
   go_ret
   exact ⟨rfl,HB2.out⟩
 | false =>
   go_upto_region 4 with (fail)
   refine z0e 11 (fun q V w'=>Val q V 0 (.pointer (some ⟨B.gs,0,none⟩)) ∧ Val q V 1 (.pointer (some ⟨B.gs,0,none⟩)) ∧ Val q V 2 (.pointer (some ⟨B.gs,1,none⟩)) ∧ Val q V 3 (.map (some B.w)) ∧ Val q V 4 (.agg (z07 .u8 n).toArray) ∧ Val q V 5 (.tuple #[.agg Z2,.bool qb]) ∧ Val q V 6 (.tuple #[.agg Z2,.bool qb]) ∧ Val q V 7 (.agg Z2) ∧ Val q V 8 (.bool qb) ∧ PutC q V w2.heap.size 9 10 38 (opV z05 none 0) (Z2) w' ∧ Below w2.heap.size w2 w' ∧ Late q 9 10) (fun _=>undef) (by kernel_rfl) (by kernel_rfl) (by kernel_rfl) (by simp only [zC,zD,z0h,Act.put,zS,zA,zB]) ⟨Val.none,Val.none,Val.none,Val.none,Val.none,Val.none,Val.none,Val.none,Val.none,PutC.none,(Below.refl _ _).drew,Late.none⟩ ?_ ?_
   ·simp only [zC,zD,z0h,Nat.zero_add,Nat.reduceAdd,Act.put,zS,zA,zB]
    refine zQc ?_ (zQc ?_ (zQc ?_ (zQc ?_ (zQc ?_ (zQc ?_ (zQc ?_ (zQc ?_ (zQc ?_ (zQc ?_ (zQc ?_ (zQn)))))))))))
    all_goals (refine zQf rfl ?_;rintro q V wq hr hu ⟨h0,h1,h2,h3,h4,h5,h6,h7,h8,h9,hb,hl9⟩ K hK)
    ·exact z0f (.tmp 0) rfl _ rfl (hK _ _ ⟨.same,h1.nd,h2.nd,h3.nd,h4.nd,h5.nd,h6.nd,h7.nd,h8.nd,h9.ne (by decide) (by decide) (Below.refl _ _),hb,hl9.nd⟩)
    ·exact z0l (.tmp 20) rfl ⟨B.gs,0,none⟩ (h0 (hr { on:=0,ground:=.data } (by simp) rfl)) (hK _ _ ⟨h0.nd,.same,h2.nd,h3.nd,h4.nd,h5.nd,h6.nd,h7.nd,h8.nd,h9.ne (by decide) (by decide) (Below.refl _ _),hb,hl9.nd⟩)
    ·exact z0m 80 (.tmp 21) 1 rfl _ _ (h1 (hr { on:=1,ground:=.data } (by simp) rfl)) (z5p B.gs 1 (by decide)) (hK _ _ ⟨h0.nd,h1.nd,.same,h3.nd,h4.nd,h5.nd,h6.nd,h7.nd,h8.nd,h9.ne (by decide) (by decide) (Below.refl _ _),hb,hl9.nd⟩)
    ·exact z0n 76 (.tmp 22) rfl _ _ (h2 (hr { on:=2,ground:=.data } (by simp) rfl)) (HS2.out.below hb).cell.2.1 Tryz.isAgg76 (hK _ _ ⟨h0.nd,h1.nd,h2.nd,.same,h4.nd,h5.nd,h6.nd,h7.nd,h8.nd,h9.ne (by decide) (by decide) (Below.refl _ _),hb,hl9.nd⟩)
    ·exact z1k 25 (.tmp 3) rfl w.heap.size .u8 n 25 _ rfl (HC2.out.below hb) Tryz.underlying25 rfl HSN.out (hK _ _ ⟨h0.nd,h1.nd,h2.nd,h3.nd,.same,h5.nd,h6.nd,h7.nd,h8.nd,h9.ne (by decide) (by decide) (Below.refl _ _),hb,hl9.nd⟩)
    ·exact z3x (.tmp 23) (.tmp 24) 76 25 38 true rfl Tryz.idKey Tryz.underlying76 (.agg (opV z05 none 0)) (z6m wq) B.w T.w (HS2.out.below hb).wm n HN.out (h3 (hr { on:=3,ground:=.data } (by simp) rfl)) (h4 (hr { on:=4,ground:=.data } (by simp) rfl)) _ (by rw [HE2.out];rfl) (hK _ _ ⟨h0.nd,h1.nd,h2.nd,h3.nd,h4.nd,.same,h6.nd,h7.nd,h8.nd,h9.ne (by decide) (by decide) (Below.refl _ _),hb,hl9.nd⟩)
    ·exact z0f (.tmp 25) rfl _ (h5 (hr { on:=5,ground:=.data } (by simp) rfl)) (hK _ _ ⟨h0.nd,h1.nd,h2.nd,h3.nd,h4.nd,h5.nd,.same,h7.nd,h8.nd,h9.ne (by decide) (by decide) (Below.refl _ _),hb,hl9.nd⟩)
    ·exact z2b (.tmp 19) 0 rfl _ _ (h6 (hr { on:=6,ground:=.data } (by simp) rfl)) (zah _ _) (hK _ _ ⟨h0.nd,h1.nd,h2.nd,h3.nd,h4.nd,h5.nd,h6.nd,.same,h8.nd,h9.ne (by decide) (by decide) (Below.refl _ _),hb,hl9.nd⟩)
    ·exact z2b (.tmp 19) 1 rfl _ _ (h6 (hr { on:=6,ground:=.data } (by simp) rfl)) (zak _ _) (hK _ _ ⟨h0.nd,h1.nd,h2.nd,h3.nd,h4.nd,h5.nd,h6.nd,h7.nd,.same,h9.ne (by decide) (by decide) (Below.refl _ _),hb,hl9.nd⟩)
    ·exact z3i 38 rfl (opV z05 none 0) z5g (hK _ _ ⟨h0.nd,h1.nd,h2.nd,h3.nd,h4.nd,h5.nd,h6.nd,h7.nd,h8.nd,PutC.made hb.size (hl9.not hu) (by decide),hb.alloc hb.size _,hl9.nd⟩)
    ·obtain ⟨g,hV,hg0,hc0⟩:=h9 (hr { on:=9,ground:=.data } (by simp) rfl)
     rw [if_neg (by rw [hu];decide)] at hc0
     refine z2c 38 (.tmp 7) (.tmp 26) rfl g _ (Z2) 38 hV (h7 (hr { on:=7,ground:=.data } (by simp) rfl)) hc0 HI2.out HL2.out HA2.out ?_
     intro w' hc' hbt
     have hbn:=But.toBelow hb hbt hg0 hb.size
     exact (hK _ _ ⟨h0.nd,h1.nd,h2.nd,h3.nd,h4.nd,h5.nd,h6.nd,h7.nd,h8.nd,PutC.stored hV hg0 (by decide) hc',hbn,Late.same (hr { on:=9,ground:=.data } (by simp) rfl)⟩)
   rintro q V wq hall ⟨h0,h1,h2,h3,h4,h5,h6,h7,h8,h9,hb,hl9⟩
   have v0:=h0 (hall 0 (by decide))
   have v1:=h1 (hall 1 (by decide))
   have v2:=h2 (hall 2 (by decide))
   have v3:=h3 (hall 3 (by decide))
   have v4:=h4 (hall 4 (by decide))
   have v5:=h5 (hall 5 (by decide))
   have v6:=h6 (hall 6 (by decide))
   have v7:=h7 (hall 7 (by decide))
   have v8:=h8 (hall 8 (by decide))
   obtain ⟨g9,v9,hg9,hc9⟩:=h9 (hall 9 (by decide))
   rw [if_pos (hall 10 (by decide))] at hc9
   obtain ⟨u10,v10⟩:∃ v,V 10 = v:=⟨_,rfl⟩
   simp only [zC,zD,zE,zF,z0h,Nat.zero_add,Nat.reduceAdd,v0,v1,v2,v3,v4,v5,v6,v7,v8,v9,Act.put,zS,zA,zB]
   clear h0 h1 h2 h3 h4 h5 h6 h7 h8 v0 v1 v2 v3 v4 v5 v6 v7 v8 v9 v10 hall hl9
   have HB4:=Lib.hid (HB2.out.trans (hb.mono HB2.out.size))
   clear hb hc9 hg9
   go_wp2_with fail
   go_ret
   exact ⟨by rw [Bool.false_or];rfl,HB4.out⟩
theorem atN_here {L:List (List Nat)} {n:List Nat} {k:Nat} (hk:k < L.length) (he:L.getD k [] = n) (h:∀ j,j < k → L.getD j [] ≠ n):atN L n = k:=by
 have hm:n ∈ L:=by
  rw [← he,List.getD_eq_getElem?_getD,List.getElem?_eq_getElem hk]
  exact List.getElem_mem hk
 have h1:L.idxOf n = k:=by
  have hi:=List.idxOf_lt_length_of_mem hm
  have hg:L[L.idxOf n] = n:=List.getElem_idxOf hi
  rcases Nat.lt_trichotomy (L.idxOf n) k with hlt | heq | hgt
  ·refine absurd ?_ (h _ hlt)
   rw [List.getD_eq_getElem?_getD,List.getElem?_eq_getElem hi]
   exact hg
  ·exact heq
  ·have:=List.not_of_lt_findIdx (p:=(· == n)) (xs:=L) (i:=k) hgt
   rw [List.getD_eq_getElem?_getD,List.getElem?_eq_getElem hk] at he
   simp only [Option.getD_some] at he
   simp [he] at this
 rw [atN,if_pos hm,h1]
theorem zh5 {L:List (List Nat)} {n:List Nat} (h:∀ j,j < L.length → L.getD j [] ≠ n):atN L n = -1 ∧ n ∉ L:=by
 have hm:n ∉ L:=fun hm=>by
  obtain ⟨j,hj,he⟩:=List.getElem_of_mem hm
  refine h j hj ?_
  rw [List.getD_eq_getElem?_getD,List.getElem?_eq_getElem hj]
  exact he
 exact ⟨by rw [atN,if_neg hm],hm⟩
theorem atN_neg {L:List (List Nat)} {n:List Nat}:decide (atN L n < 0) = !decide (n ∈ L):=by
 rw [atN]
 by_cases hm:n ∈ L
 ·rw [if_pos hm]
  simp [hm]
 ·simp [hm]
theorem zai (X:Nat → Prop) (gs:Nat) (vo vw vn vq:Value) (s:DagN) (n:List Nat) (w:World) (h:RefAt X gs vo vw vn vq s w) (hn:n.length = 32) (hnl:∀ y ∈ n,y < 256) (hb:s.ops.length ≤ 1000000) :
 Calls Tryz.prog 21 #[.pointer (some ⟨gs,0,none⟩),.agg (z07 .u8 n).toArray] w fun e w'=>e = .returned (.int .i64 (atN s.names n)) ∧ Below w.heap.size w w':=by
 obtain ⟨ao,cap,rfl⟩:=h.names.form
 have hm:s.names.length ≤ 1000000:=by rw [DagN.names,List.length_map];exact hb
 have hL:Ids s.names:=z3u
 have hat:=h.names.at hL
 obtain ⟨L,hLE⟩:∃ L,s.names = L:=⟨_,rfl⟩
 rw [hLE] at h hm hL hat ⊢
 have hc:=h.cell.2.2.1
 have hgs:=h.cells.lt
 obtain ⟨m,hme⟩:∃ m,L.length = m:=⟨_,rfl⟩
 rw [hme] at hc hm h
 have HM:=Shut.mk hme
 have HL:=Lib.hid hL
 have b1:Below w.heap.size w (w.alloc (.cells (z07 .u8 n).toArray 25)):=(Below.refl _ _).alloc (Nat.le_refl _) _
 have x1:Blk w.heap.size 25 .u8 n (w.alloc (.cells (z07 .u8 n).toArray 25)):=heap_alloc_new w _
 have HB:=Lib.hid b1
 have HX:=Lib.hid x1
 have HAT:=Lib.hid (hat.below b1)
 have HC:=Lib.hid ((b1.cell (p:=⟨gs,2,none⟩) hgs).trans hc)
 have HG:=Lib.hid (show gs < (w.alloc (.cells (z07 .u8 n).toArray 25)).heap.size from Nat.lt_of_lt_of_le hgs b1.size)
 have HN:=Lib.hid hn
 have HNL:=Lib.hid hnl
 have HSN:=Lib.hid (show (Tryz.prog.info? 25).map (·.size) = some n.length by rw [hn];exact Tryz.sizeI)
 clear h hLE hL hat hc hgs hme b1 x1 hn hnl hb
 go_enter Tryz.func21,Tryz.ntmps21
 go_upto_region 1 with (fail)
 obtain ⟨w1,hw1⟩:∃ x,x = w.alloc (.cells (z07 .u8 n).toArray 25):=⟨_,rfl⟩
 rw [← hw1] at HB HX HAT HC HG ⊢
 clear hw1
 have hc:=HC.out
 go_wp2_with fail
 clear hc
 go_loopw [12] (fun i wr=>∃ k:Nat,k ≤ m ∧ i = .int .i64 k ∧ (∀ j,j < k → L.getD j [] ≠ n) ∧ Below w1.heap.size w1 wr) (fun i _=>m - (intOf i).toNat)
 case atStart=>exact ⟨0,Nat.zero_le _,rfl,fun j hj=>by omega,Below.refl _ _⟩
 case round =>
  obtain ⟨k,hk,rfl,hj,hbw⟩:=hrel
  have HJ:=Lib.hid hj
  have HBW:=Lib.hid hbw
  have HXW:=Lib.hid (HX.out.below hbw)
  have HATW:=Lib.hid (HAT.out.below hbw)
  clear hj hbw
  by_cases hlt:k < m
  ·obtain ⟨b,ob,rfl,hbl⟩:=HATW.out.some (by rw [HM.out];omega)
   have g1:=HATW.out.get (i:=k) (by rw [HM.out];omega)
   have i1:=Ids.getD HL.out (i:=k) (by rw [HM.out];omega)
   obtain ⟨x,hx⟩:∃ x,L.getD k [] = x:=⟨_,rfl⟩
   rw [hx] at g1 i1
   have HXE:=Shut.mk hx
   have HG1:=Lib.hid g1
   have HS1:=Lib.hid (show (Tryz.prog.info? 25).map (·.size) = some x.length by rw [i1.1];exact Tryz.sizeI)
   have HL2:=Lib.hid (show (List.replicate 32 0).length = x.length by rw [i1.1];rfl)
   have HEQ:=Lib.hid (fun w'=>z40 x n i1.1 HN.out i1.2 HNL.out w')
   have HXL:=Lib.hid i1.1
   have hxw:=HXW.out.lt
   have hgw:w.heap.size ≠ wr.heap.size:=by omega
   clear hx g1 i1 hbl hxw
   go_wp2_with (first
    | (refine z0a rfl 25 _ rfl b (ob + k * 32) x _ rfl HG1.out Tryz.underlying25 rfl HS1.out ?_)
    | (refine z06 rfl 25 _ _ rfl rfl wr.heap.size .u8 (List.replicate 32 0) x 25 rfl rfl (heap_alloc_new wr _) HS1.out HL2.out ?_))
   intro w5 hc' hb'
   have HY:=Lib.hid hc'.out
   have HX5:=Lib.hid ((HXW.out.alloc _).but hb'.out hgw)
   have HB5:=Lib.hid (show Below w1.heap.size w1 w5 from But.toBelow (HBW.out.alloc HBW.out.size _) hb'.out HBW.out.size (Nat.le_trans HBW.out.size (by rw [World.size_alloc];exact Nat.le_succ _)))
   clear hc' hb' HL2 hgw
   have heq:=HEQ.out
   have hs1:=HS1.out
   obtain ⟨z,hz⟩:∃ z,(x == n) = z:=⟨_,rfl⟩
   rw [hz] at heq
   have HZ:=Shut.mk hz
   clear hz HEQ
   cases z with
   | true =>
     have HR:=Shut.mk (show atN L n = (k:Int) from atN_here (by rw [HM.out];exact hlt) (by rw [HXE.out];have:=HZ.out;simpa using this) HJ.out)
     go_wp2_with (first
      | (refine z04 rfl 25 (.tmp 6) rfl wr.heap.size .u8 _ 25 _ rfl HY.out Tryz.underlying25 rfl HS1.out ?_)
      | (refine z04 rfl 25 (.tmp 3) rfl w.heap.size .u8 _ 25 _ rfl HX5.out Tryz.underlying25 rfl HSN.out ?_))
     go_ret
     exact ⟨by rw [HR.out];rfl,HB.out.trans (HB5.out.mono HB.out.size)⟩
   | false =>
     have HNE:=Lib.hid (show x ≠ n by have:=HZ.out;simpa using this)
     go_wp2_with (first
      | (refine z04 rfl 25 (.tmp 6) rfl wr.heap.size .u8 _ 25 _ rfl HY.out Tryz.underlying25 rfl HS1.out ?_)
      | (refine z04 rfl 25 (.tmp 3) rfl w.heap.size .u8 _ 25 _ rfl HX5.out Tryz.underlying25 rfl HSN.out ?_))
     refine ⟨⟨k + 1,by omega,by go_num,fun q hq=>?_,HB5.out⟩,by simp [intOf];omega⟩
     by_cases hqj:q = k
     ·subst hqj
      rw [HXE.out]
      exact HNE.out
     ·exact HJ.out q (by omega)
  ·obtain rfl:k = m:=by omega
   have HR:=Shut.mk (show atN L n = -1 from (zh5 (fun j hj=>HJ.out j (by rw [← HM.out];exact hj))).1)
   go_wp2_with fail
   go_ret
   exact ⟨by rw [HR.out];rfl,HB.out.trans (HBW.out.mono HB.out.size)⟩
theorem zhc (X:Nat → Prop) (gs:Nat) (vo vw vn vq:Value) (s:DagN) (n:List Nat) (w:World) (h:RefAt X gs vo vw vn vq s w) (hn:n.length = 32) (hnl:∀ y ∈ n,y < 256) (hb:s.wait.length ≤ 1000000) :
 Calls Tryz.prog 50 #[.pointer (some ⟨gs,0,none⟩),.agg (z07 .u8 n).toArray] w fun e w'=>e = .returned (.bool (decide (n ∈ s.waits))) ∧ Below w.heap.size w w':=by
 obtain ⟨ao,cap,rfl⟩:=h.waits.form
 have hm:s.waits.length ≤ 1000000:=by rw [DagN.waits,List.length_map];exact hb
 have hL:Ids s.waits:=z3u
 have hat:=h.waits.at hL
 obtain ⟨L,hLE⟩:∃ L,s.waits = L:=⟨_,rfl⟩
 rw [hLE] at h hm hL hat ⊢
 have hc:=h.cell.2.2.2
 have hgs:=h.cells.lt
 obtain ⟨m,hme⟩:∃ m,L.length = m:=⟨_,rfl⟩
 rw [hme] at hc hm h
 have HM:=Shut.mk hme
 have HL:=Lib.hid hL
 have b1:Below w.heap.size w (w.alloc (.cells (z07 .u8 n).toArray 25)):=(Below.refl _ _).alloc (Nat.le_refl _) _
 have x1:Blk w.heap.size 25 .u8 n (w.alloc (.cells (z07 .u8 n).toArray 25)):=heap_alloc_new w _
 have HB:=Lib.hid b1
 have HX:=Lib.hid x1
 have HAT:=Lib.hid (hat.below b1)
 have HC:=Lib.hid ((b1.cell (p:=⟨gs,3,none⟩) hgs).trans hc)
 have HG:=Lib.hid (show gs < (w.alloc (.cells (z07 .u8 n).toArray 25)).heap.size from Nat.lt_of_lt_of_le hgs b1.size)
 have HN:=Lib.hid hn
 have HNL:=Lib.hid hnl
 have HSN:=Lib.hid (show (Tryz.prog.info? 25).map (·.size) = some n.length by rw [hn];exact Tryz.sizeI)
 clear h hLE hL hat hc hgs hme b1 x1 hn hnl hb
 go_enter Tryz.func50,Tryz.ntmps50
 go_upto_region 1 with (fail)
 obtain ⟨w1,hw1⟩:∃ x,x = w.alloc (.cells (z07 .u8 n).toArray 25):=⟨_,rfl⟩
 rw [← hw1] at HB HX HAT HC HG ⊢
 clear hw1
 have hc:=HC.out
 go_wp2_with fail
 clear hc
 go_loopw [12] (fun i wr=>∃ k:Nat,k ≤ m ∧ i = .int .i64 k ∧ (∀ j,j < k → L.getD j [] ≠ n) ∧ Below w1.heap.size w1 wr) (fun i _=>m - (intOf i).toNat)
 case atStart=>exact ⟨0,Nat.zero_le _,rfl,fun j hj=>by omega,Below.refl _ _⟩
 case round =>
  obtain ⟨k,hk,rfl,hj,hbw⟩:=hrel
  have HJ:=Lib.hid hj
  have HBW:=Lib.hid hbw
  have HXW:=Lib.hid (HX.out.below hbw)
  have HATW:=Lib.hid (HAT.out.below hbw)
  clear hj hbw
  by_cases hlt:k < m
  ·obtain ⟨b,ob,rfl,hbl⟩:=HATW.out.some (by rw [HM.out];omega)
   have g1:=HATW.out.get (i:=k) (by rw [HM.out];omega)
   have i1:=Ids.getD HL.out (i:=k) (by rw [HM.out];omega)
   obtain ⟨x,hx⟩:∃ x,L.getD k [] = x:=⟨_,rfl⟩
   rw [hx] at g1 i1
   have HXE:=Shut.mk hx
   have HG1:=Lib.hid g1
   have HS1:=Lib.hid (show (Tryz.prog.info? 25).map (·.size) = some x.length by rw [i1.1];exact Tryz.sizeI)
   have HL2:=Lib.hid (show (List.replicate 32 0).length = x.length by rw [i1.1];rfl)
   have HEQ:=Lib.hid (fun w'=>z40 x n i1.1 HN.out i1.2 HNL.out w')
   have HXL:=Lib.hid i1.1
   have hxw:=HXW.out.lt
   have hgw:w.heap.size ≠ wr.heap.size:=by omega
   clear hx g1 i1 hbl hxw
   go_wp2_with (first
    | (refine z0a rfl 25 _ rfl b (ob + k * 32) x _ rfl HG1.out Tryz.underlying25 rfl HS1.out ?_)
    | (refine z06 rfl 25 _ _ rfl rfl wr.heap.size .u8 (List.replicate 32 0) x 25 rfl rfl (heap_alloc_new wr _) HS1.out HL2.out ?_))
   intro w5 hc' hb'
   have HY:=Lib.hid hc'.out
   have HX5:=Lib.hid ((HXW.out.alloc _).but hb'.out hgw)
   have HB5:=Lib.hid (show Below w1.heap.size w1 w5 from But.toBelow (HBW.out.alloc HBW.out.size _) hb'.out HBW.out.size (Nat.le_trans HBW.out.size (by rw [World.size_alloc];exact Nat.le_succ _)))
   clear hc' hb' HL2 hgw
   have heq:=HEQ.out
   have hs1:=HS1.out
   obtain ⟨z,hz⟩:∃ z,(x == n) = z:=⟨_,rfl⟩
   rw [hz] at heq
   have HZ:=Shut.mk hz
   clear hz HEQ
   cases z with
   | true =>
     have HR:=Shut.mk (show decide (n ∈ L) = true from decide_eq_true (by rw [show n = L.getD k [] by rw [HXE.out];exact (by have:=HZ.out;simpa using this:x = n).symm,List.getD_eq_getElem?_getD,List.getElem?_eq_getElem (by rw [HM.out];exact hlt)];exact List.getElem_mem _))
     go_wp2_with (first
      | (refine z04 rfl 25 (.tmp 6) rfl wr.heap.size .u8 _ 25 _ rfl HY.out Tryz.underlying25 rfl HS1.out ?_)
      | (refine z04 rfl 25 (.tmp 3) rfl w.heap.size .u8 _ 25 _ rfl HX5.out Tryz.underlying25 rfl HSN.out ?_))
     go_ret
     exact ⟨by rw [HR.out];rfl,HB.out.trans (HB5.out.mono HB.out.size)⟩
   | false =>
     have HNE:=Lib.hid (show x ≠ n by have:=HZ.out;simpa using this)
     go_wp2_with (first
      | (refine z04 rfl 25 (.tmp 6) rfl wr.heap.size .u8 _ 25 _ rfl HY.out Tryz.underlying25 rfl HS1.out ?_)
      | (refine z04 rfl 25 (.tmp 3) rfl w.heap.size .u8 _ 25 _ rfl HX5.out Tryz.underlying25 rfl HSN.out ?_))
     refine ⟨⟨k + 1,by omega,by go_num,fun q hq=>?_,HB5.out⟩,by simp [intOf];omega⟩
     by_cases hqj:q = k
     ·subst hqj
      rw [HXE.out]
      exact HNE.out
     ·exact HJ.out q (by omega)
  ·obtain rfl:k = m:=by omega
   have HR:=Shut.mk (show decide (n ∈ L) = false from decide_eq_false (zh5 (fun j hj=>HJ.out j (by rw [← HM.out];exact hj))).2)
   go_wp2_with fail
   go_ret
   exact ⟨by rw [HR.out];rfl,HB.out.trans (HBW.out.mono HB.out.size)⟩
theorem zh7 {L P:List (List Nat)}:∀ (n:Nat),P.length = n → (∀ j,j < n → P.getD j [] ∈ L) → (P.all fun p=>decide (p ∈ L)) = true:=by
 intro n hn h
 rw [List.all_eq_true]
 intro p hp
 obtain ⟨j,hj,rfl⟩:=List.getElem_of_mem hp
 have:=h j (by omega)
 rw [List.getD_eq_getElem?_getD,List.getElem?_eq_getElem hj] at this
 exact decide_eq_true this
theorem zk0 {L P:List (List Nat)} {k:Nat} (hk:k < P.length) (h:P.getD k [] ∉ L):(P.all fun p=>decide (p ∈ L)) = false:=by
 rw [List.all_eq_false]
 refine ⟨P.getD k [],?_,by simpa using h⟩
 rw [List.getD_eq_getElem?_getD,List.getElem?_eq_getElem hk]
 exact List.getElem_mem hk
theorem zeh (X:Nat → Prop) (gs:Nat) (vo vw vn vq:Value) (s:DagN) (o:OpN) (pa:Option Addr) (pc:Nat) (w:World) (h:RefAt X gs vo vw vn vq s w) (ho:o.d.ref.length = 32) (hP:Ids o.preds) (hp:IAt pa o.preds w) (hq:o.preds.length ≤ 1000000) (hb:s.ops.length ≤ 1000000) :
 Calls Tryz.prog 51 #[.pointer (some ⟨gs,0,none⟩),.agg (opV o pa pc)] w fun e w'=>e = .returned (.bool (z1l s.names o)) ∧ Below w.heap.size w w':=by
 obtain ⟨L,hLE⟩:∃ L,s.names = L:=⟨_,rfl⟩
 have HAT:=Lib.hid (fun (n:List Nat) (hn:n.length = 32) (hnl:∀ y ∈ n,y < 256) (w1:World) (b:Below w.heap.size w w1)=>show Calls Tryz.prog 21 #[.pointer (some ⟨gs,0,none⟩),.agg (z07 .u8 n).toArray] w1 fun e w'=>e = .returned (.int .i64 (atN L n)) ∧ Below w1.heap.size w1 w' from hLE ▸ zai X gs vo vw vn vq s n w1 (h.below b) hn hnl hb)
 have HWE:=Shut.mk (show z1l s.names o = o.preds.all fun p=>decide (p ∈ L) by rw [z1l,hLE])
 obtain ⟨W,hW⟩:∃ W,z1l s.names o = W:=⟨_,rfl⟩
 rw [hW] at HWE ⊢
 have b1:Below w.heap.size w (w.alloc (.cells (opV o pa pc) 38)):=(Below.refl _ _).alloc (Nat.le_refl _) _
 have x1:Cells w.heap.size 38 (opV o pa pc) (w.alloc (.cells (opV o pa pc) 38)):=heap_alloc_new w _
 have HB:=Lib.hid b1
 have HX:=Lib.hid x1
 have HPA:=Lib.hid (hp.below b1)
 have HO:=Lib.hid ho
 have HPI:=Lib.hid hP
 obtain ⟨m,hme⟩:∃ m,o.preds.length = m:=⟨_,rfl⟩
 have HM:=Shut.mk hme
 rw [hme] at hq
 clear h hLE hW b1 x1 hp ho hP hme hb
 go_enter Tryz.func51,Tryz.ntmps51
 go_upto_region 1 with (fail)
 obtain ⟨w1,hw1⟩:∃ x,x = w.alloc (.cells (opV o pa pc) 38):=⟨_,rfl⟩
 rw [← hw1] at HB HX HPA ⊢
 clear hw1
 obtain ⟨_,_,_,c37⟩:=z0j HO.out HX.out
 rw [HM.out] at c37
 go_wp2_with fail
 clear c37
 go_loopw [10] (fun i wr=>∃ k:Nat,k ≤ m ∧ i = .int .i64 k ∧ (∀ j,j < k → o.preds.getD j [] ∈ L) ∧ Below w1.heap.size w1 wr) (fun i _=>m - (intOf i).toNat)
 case atStart=>exact ⟨0,Nat.zero_le _,rfl,fun j hj=>by omega,Below.refl _ _⟩
 case round =>
  obtain ⟨k,hk,rfl,hj,hbw⟩:=hrel
  have HJ:=Lib.hid hj
  have HBW:=Lib.hid hbw
  have HPW:=Lib.hid (HPA.out.below hbw)
  clear hj hbw
  by_cases hlt:k < m
  ·obtain ⟨b,ob,rfl,hbl⟩:=HPW.out.some (by rw [HM.out];omega)
   have g1:=HPW.out.get (i:=k) (by rw [HM.out];omega)
   have i1:=Ids.getD HPI.out (i:=k) (by rw [HM.out];omega)
   obtain ⟨x,hx⟩:∃ x,o.preds.getD k [] = x:=⟨_,rfl⟩
   rw [hx] at g1 i1
   have HXE:=Shut.mk hx
   have HG1:=Lib.hid g1
   have HS1:=Lib.hid (show (Tryz.prog.info? 25).map (·.size) = some x.length by rw [i1.1];exact Tryz.sizeI)
   have HL2:=Lib.hid (show (List.replicate 32 0).length = x.length by rw [i1.1];rfl)
   have HC:=Lib.hid (fun w1 b=>HAT.out x i1.1 i1.2 w1 b)
   obtain ⟨q,hq2⟩:∃ q,atN L x = q:=⟨_,rfl⟩
   rw [hq2] at HC
   have HQ:=Shut.mk (show decide (q < 0) = !decide (x ∈ L) by rw [← hq2,atN_neg])
   clear hx g1 i1 hbl hq2
   go_wp2_with (first
    | (refine z0a rfl 25 _ rfl b (ob + k * 32) x _ rfl HG1.out Tryz.underlying25 rfl HS1.out ?_)
    | (refine z06 rfl 25 _ _ rfl rfl wr.heap.size .u8 (List.replicate 32 0) x 25 rfl rfl (heap_alloc_new wr _) HS1.out HL2.out ?_))
   intro w5 hc' hb'
   have HY:=Lib.hid hc'.out
   have HB5:=Lib.hid (show Below w1.heap.size w1 w5 from But.toBelow (HBW.out.alloc HBW.out.size _) hb'.out HBW.out.size (Nat.le_trans HBW.out.size (by rw [World.size_alloc];exact Nat.le_succ _)))
   clear hc' hb' HL2
   go_wp2_with (refine z04 rfl 25 (.tmp 6) rfl wr.heap.size .u8 _ 25 _ rfl HY.out Tryz.underlying25 rfl HS1.out ?_)
   refine (HC.out _ (HB.out.trans (HB5.out.mono HB.out.size))).mono ?_
   rintro e w6 ⟨rfl,hb6⟩
   have HB6:=Lib.hid (HB5.out.trans (hb6.mono HB5.out.size))
   clear hb6
   by_cases hin:x ∈ L
   ·have hqn:¬ q < 0:=by have:=HQ.out;simpa [hin] using this
    have HIN:=Lib.hid hin
    clear hin
    go_wp2_with fail
    refine ⟨⟨k + 1,by omega,by go_num,fun i hi=>?_,HB6.out⟩,by simp [intOf];omega⟩
    by_cases hqj:i = k
    ·subst hqj
     rw [HXE.out]
     exact HIN.out
    ·exact HJ.out i (by omega)
   ·have hqn:q < 0:=by have:=HQ.out;simpa [hin] using this
    have HR:=Shut.mk (show W = false by rw [HWE.out];exact zk0 (by rw [HM.out];exact hlt) (by rw [HXE.out];exact hin))
    clear hin
    go_wp2_with fail
    go_ret
    exact ⟨by rw [HR.out];rfl,HB.out.trans (HB6.out.mono HB.out.size)⟩
  ·obtain rfl:k = m:=by omega
   have HR:=Shut.mk (show W = true by rw [HWE.out];exact zh7 k HM.out HJ.out)
   go_wp2_with fail
   go_ret
   exact ⟨by rw [HR.out];rfl,HB.out.trans (HBW.out.mono HB.out.size)⟩
theorem zff {ops:List OpN} {P:List (List Nat)} {k:Nat} (hk:k < P.length):z6i ops (P.take (k + 1)) = if z6i ops (P.take k) < z0z ops (P.getD k []) then z0z ops (P.getD k []) else z6i ops (P.take k):=by
 rw [z6i,z6i,List.take_succ_eq_append_getElem hk,List.foldl_append,List.foldl_cons,List.foldl_nil,List.getD_eq_getElem?_getD,List.getElem?_eq_getElem hk]
 rfl
theorem zks {ops:List OpN} {x:List Nat} (h:x ∈ ops.map z00):∃ (q:Nat) (y:OpN),q < ops.length ∧ atN (ops.map z00) x = (q:Int) ∧ ops[q]? = some y ∧ z00 y = x ∧ z0z ops x = y.depth:=by
 have hi:=List.idxOf_lt_length_of_mem h
 have hl:(ops.map z00).length = ops.length:=List.length_map _
 have hg:(ops.map z00)[(ops.map z00).idxOf x] = x:=List.getElem_idxOf hi
 rw [hl] at hi
 refine ⟨(ops.map z00).idxOf x,ops[(ops.map z00).idxOf x],hi,by rw [atN,if_pos h],List.getElem?_eq_getElem hi,?_,?_⟩
 ·rw [List.getElem_map] at hg
  exact hg
 ·rw [z0z,List.getElem?_eq_getElem hi]
  rfl
theorem zgc {x:OpN} {pa:Option Addr} {pc:Nat} (hr:x.d.ref.length = 32):(opL x pa pc)[36]? = some (.int .i64 x.depth):=by
 rw [opL,List.getElem?_append_right (by rw [z0u hr];omega),z0u hr]
 rfl
theorem zbt (X:Nat → Prop) (gs:Nat) (vo vw vn vq:Value) (s:DagN) (o:OpN) (pa:Option Addr) (pc:Nat) (w:World) (h:RefAt X gs vo vw vn vq s w) (hrr:∀ x ∈ s.ops,x.d.ref.length = 32) (ho:o.d.ref.length = 32) (hP:Ids o.preds) (hp:IAt pa o.preds w) (hq:o.preds.length ≤ 1000000) (hb:s.ops.length ≤ 1000000)
 (hsh:s.Shallow) (hwh:∀ x ∈ o.preds,x ∈ s.names) :
 Calls Tryz.prog 52 #[.pointer (some ⟨gs,0,none⟩),.agg (opV o pa pc)] w fun e w'=>e = .returned (.int .i64 (z1p s.ops o)) ∧ Below w.heap.size w w':=by
 obtain ⟨vb,cap,rfl⟩:=h.ops.form
 have hat:=h.ops.at
 have HAT:=Lib.hid (fun (n:List Nat) (hn:n.length = 32) (hnl:∀ y ∈ n,y < 256) (w1:World) (b:Below w.heap.size w w1)=>zai X gs _ vw vn vq s n w1 (h.below b) hn hnl hb)
 have HMD:=Lib.hid (fun P:List (List Nat)=>show 0 ≤ z6i s.ops P ∧ z6i s.ops P ≤ 1000000 from ⟨(z9q hsh (by omega) P).1,Int.le_trans (z9q hsh (by omega) P).2 (by omega)⟩)
 have hc:=h.cell.1
 have hgs:=h.cells.lt
 have b1:Below w.heap.size w (w.alloc (.cells (opV o pa pc) 38)):=(Below.refl _ _).alloc (Nat.le_refl _) _
 have x1:Cells w.heap.size 38 (opV o pa pc) (w.alloc (.cells (opV o pa pc) 38)):=heap_alloc_new w _
 have HB:=Lib.hid b1
 have HX:=Lib.hid x1
 have HPA:=Lib.hid (hp.below b1)
 have HO:=Lib.hid ho
 have HPI:=Lib.hid hP
 have HRR:=Lib.hid hrr
 have HWH:=Lib.hid hwh
 obtain ⟨N,hN⟩:∃ N,s.ops.length = N:=⟨_,rfl⟩
 have HN:=Shut.mk hN
 rw [hN] at hc
 have HC:=Lib.hid (fun (w1:World) (b:Below w.heap.size w w1)=>(b.cell (p:=⟨gs,0,none⟩) hgs).trans hc)
 have HOA:=Lib.hid (fun (w1:World) (b:Below w.heap.size w w1)=>hat.below b)
 obtain ⟨m,hme⟩:∃ m,o.preds.length = m:=⟨_,rfl⟩
 have HM:=Shut.mk hme
 rw [hme] at hq
 rw [hN] at hb
 have HDE:=Shut.mk (show z1p s.ops o = z6i s.ops o.preds + 1 from rfl)
 obtain ⟨DD,hDD⟩:∃ DD,z1p s.ops o = DD:=⟨_,rfl⟩
 rw [hDD] at HDE ⊢
 clear h hat b1 x1 hp ho hP hme hrr hwh hsh hc hgs hN hDD
 go_enter Tryz.func52,Tryz.ntmps52
 go_upto_region 1 with (fail)
 obtain ⟨w1,hw1⟩:∃ x,x = w.alloc (.cells (opV o pa pc) 38):=⟨_,rfl⟩
 rw [← hw1] at HB HX HPA ⊢
 clear hw1
 obtain ⟨_,_,_,c37⟩:=z0j HO.out HX.out
 rw [HM.out] at c37
 go_wp2_with fail
 clear c37
 go_loopw [5,12] (fun v i wr=>∃ k:Nat,k ≤ m ∧ i = .int .i64 k ∧ v = .int .i64 (z6i s.ops (o.preds.take k)) ∧ Below w1.heap.size w1 wr) (fun _ i _=>m - (intOf i).toNat)
 case atStart=>exact ⟨0,Nat.zero_le _,rfl,rfl,Below.refl _ _⟩
 case round =>
  obtain ⟨k,hk,rfl,rfl,hbw⟩:=hrel
  have HBW:=Lib.hid hbw
  have HPW:=Lib.hid (HPA.out.below hbw)
  clear hbw
  by_cases hlt:k < m
  ·obtain ⟨b,ob,rfl,hbl⟩:=HPW.out.some (by rw [HM.out];omega)
   have g1:=HPW.out.get (i:=k) (by rw [HM.out];omega)
   have i1:=Ids.getD HPI.out (i:=k) (by rw [HM.out];omega)
   have HST:=Shut.mk (zff (ops:=s.ops) (P:=o.preds) (k:=k) (by rw [HM.out];omega))
   have hmem:o.preds.getD k [] ∈ s.names:=HWH.out _ (by rw [List.getD_eq_getElem?_getD,List.getElem?_eq_getElem (by rw [HM.out];exact hlt)];exact List.getElem_mem _)
   obtain ⟨x,hx⟩:∃ x,o.preds.getD k [] = x:=⟨_,rfl⟩
   rw [hx] at g1 i1 HST hmem
   obtain ⟨q,y,hqN,haq,hy,_,hdy⟩:=zks hmem
   rw [HN.out] at hqN
   obtain ⟨bo,oo,rfl,hbo,hO⟩:=(HOA.out w (Below.refl _ _)).get hy
   obtain ⟨py,cy,hr1,_,_⟩:=hO
   have hd0:=hr1 36 _ (zgc (HRR.out y (List.mem_of_getElem? hy)))
   rw [hdy] at HST
   obtain ⟨D,hD⟩:∃ D,y.depth = D:=⟨_,rfl⟩
   rw [hD] at HST hd0
   obtain ⟨M,hM⟩:∃ M,z6i s.ops (o.preds.take k) = M:=⟨_,rfl⟩
   rw [hM] at HST ⊢
   have HD0:=Lib.hid (fun (w1:World) (b:Below w.heap.size w w1)=>(b.cell (p:=⟨bo,oo + q * 38 + 36,none⟩) hbo).trans hd0)
   have HG1:=Lib.hid g1
   have HS1:=Lib.hid (show (Tryz.prog.info? 25).map (·.size) = some x.length by rw [i1.1];exact Tryz.sizeI)
   have HL2:=Lib.hid (show (List.replicate 32 0).length = x.length by rw [i1.1];rfl)
   have HCA:=Lib.hid (fun w1 b=>show Calls Tryz.prog 21 #[.pointer (some ⟨gs,0,none⟩),.agg (z07 .u8 x).toArray] w1 fun e w'=>e = .returned (.int .i64 (q:Int)) ∧ Below w1.heap.size w1 w' from haq ▸ HAT.out x i1.1 i1.2 w1 b)
   clear hx g1 i1 hbl hmem haq hy hdy hr1 hd0 hD hM
   go_wp2_with (first
    | (refine z0a rfl 25 _ rfl b (ob + k * 32) x _ rfl HG1.out Tryz.underlying25 rfl HS1.out ?_)
    | (refine z06 rfl 25 _ _ rfl rfl wr.heap.size .u8 (List.replicate 32 0) x 25 rfl rfl (heap_alloc_new wr _) HS1.out HL2.out ?_))
   intro w5 hc' hb'
   have HY:=Lib.hid hc'.out
   have HB5:=Lib.hid (show Below w1.heap.size w1 w5 from But.toBelow (HBW.out.alloc HBW.out.size _) hb'.out HBW.out.size (Nat.le_trans HBW.out.size (by rw [World.size_alloc];exact Nat.le_succ _)))
   clear hc' hb' HL2
   have HB0:=Lib.hid (HB.out.trans (HB5.out.mono HB.out.size))
   have HC5:=Lib.hid (fun (w':World) (b:Below w5.heap.size w5 w')=>HC.out w' (HB0.out.trans (b.mono HB0.out.size)))
   have HD5:=Lib.hid (fun (w':World) (b:Below w5.heap.size w5 w')=>HD0.out w' (HB0.out.trans (b.mono HB0.out.size)))
   have HY5:=Lib.hid (fun (w':World) (b:Below w5.heap.size w5 w')=>HY.out.below b)
   have HCA5:=Lib.hid (fun (w':World) (b:Below w5.heap.size w5 w')=>HCA.out w' (HB0.out.trans (b.mono HB0.out.size)))
   clear HCA HD0 HY
   go_upto_region 5 with (fail)
   refine z09 (fun w'=>Below w5.heap.size w5 w') (by kernel_rfl) (by kernel_rfl) (Below.refl _ _).drew ?_
   repeat (first
    | go_big_quiet_skip
    | (go_big_quiet_want;refine z03 29 _ rfl ⟨gs,0,none⟩ _ rfl HC5.out Tryz.isAgg29 ?_;go_big_quiet_on;simp only [Act.put,zS,zA,zB])
    | (go_big_quiet_want;refine z0x 25 _ rfl wr.heap.size .u8 x 25 _ rfl HY5.out Tryz.underlying25 rfl HS1.out ?_;go_big_quiet_on;simp only [Act.put,zS,zA,zB])
    | (go_big_quiet_want;refine z03 3 _ rfl ⟨bo,oo + q * 38 + 36,none⟩ _ rfl HD5.out Tryz.isAgg3 ?_;go_big_quiet_on;simp only [Act.put,zS,zA,zB])
    | go_big_quiet_step ((intro hs';first
     | (go_at_call 21;exact (HCA5.out _ hs').mono fun e w' h=>⟨h.1,hs'.trans (h.2.mono hs'.size)⟩)
     | rfl)))
   refine wpQuiet_nil ?_
   intro w6 hb6
   have HB6:=Lib.hid (HB5.out.trans (hb6.mono HB5.out.size))
   clear hb6 HC5 HD5 HY5 HCA5
   by_cases hmd:M < D
   ·rw [if_pos hmd] at HST
    go_wp2_with fail
    exact ⟨⟨k + 1,by omega,by go_num,by rw [HST.out],HB6.out⟩,by simp [intOf];omega⟩
   ·rw [if_neg hmd] at HST
    go_wp2_with fail
    exact ⟨⟨k + 1,by omega,by go_num,by rw [HST.out],HB6.out⟩,by simp [intOf];omega⟩
  ·obtain rfl:k = m:=by omega
   have HR:=Shut.mk (show DD = z6i s.ops (o.preds.take k) + 1 by rw [HDE.out,List.take_of_length_le (Nat.le_of_eq HM.out)])
   have hmd:=HMD.out (o.preds.take k)
   obtain ⟨M,hM⟩:∃ M,z6i s.ops (o.preds.take k) = M:=⟨_,rfl⟩
   rw [hM] at HR hmd ⊢
   obtain ⟨hm1,hm2⟩:=hmd
   clear hM
   go_wp2_with fail
   go_ret
   exact ⟨by rw [HR.out];rfl,HB.out.trans (HBW.out.mono HB.out.size)⟩
theorem zh3 {L:List OpN} (hd:(L.map z00).Nodup) {i:Nat} {x:OpN} (h:L[i]? = some x):z0z L (z00 x) = x.depth:=by
 have hi:=(List.getElem?_eq_some_iff.1 h).1
 have hm:z00 x ∈ L.map z00:=List.mem_map.2 ⟨x,List.mem_of_getElem? h,rfl⟩
 have hx:=List.idxOf_lt_length_of_mem hm
 have h1:(L.map z00)[(L.map z00).idxOf (z00 x)]? = (L.map z00)[i]?:=by
  rw [List.getElem?_eq_getElem hx,List.getElem_idxOf hx,List.getElem?_map,h]
  rfl
 have h2:=(List.getElem?_inj hx hd).1 h1
 rw [z0z,h2,h]
 rfl
theorem zhr {L:List OpN} {n:List Nat} (h:n ∉ L.map z00):z0z L n = 0:=by
 rw [z0z,List.getElem?_eq_none]
 ·rfl
 ·rw [List.idxOf_eq_length h,List.length_map]
  exact Nat.le_refl _
theorem zhm {o:Oper} {a:Act} {C:World → Prop} {K:Act → Prop} (x:Operand) (ho:o.op = .field 38 x 2) (y:OpN) (pa:Option Addr) (pc:Nat) (hy:y.d.ref.length = 32) (hx:a.eval x = .agg (opV y pa pc)) (hk:K (a.put o.dst (.int .i64 y.depth))):o.quiet Tryz.prog a C K:=by
 have hc:(opV y pa pc)[36]? = some (.int .i64 y.depth):=by rw [opV,List.getElem?_toArray];exact zgc hy
 refine ⟨_,fun w _=>?_,hk⟩
 unfold Oper.quietAt execOp
 have hr:(Instr.field 38 (.agg (opV y pa pc)) 2).run Tryz.prog w = .ok (.int .i64 y.depth) w:=by
  obtain ⟨Z,hZ⟩:∃ Z,opV y pa pc = Z:=⟨_,rfl⟩
  rw [hZ] at hc ⊢
  go_simp
  exact z7a (Tryz.isAgg3 w) hc
 simp only [ho,hx,hr,Sem.run_bind,Sem.run_pure,Result.andThen_ok]
 exact ⟨rfl,rfl⟩
theorem zle (X:Nat → Prop) (B:Bs) (T:Ents) (s:DagN) (hs:List (List Nat)) (M:Bh) (P:List (List Nat)) (pa:Option Addr) (m pc:Nat) (w:World) (h:SetAt X B T s hs M w) (hP:Ids P) (hp:IAt pa P w) (hm:P.length = m) (hq:m ≤ 1000000) (hro:∀ x ∈ s.ops,x.d.ref.length = 32) (hsh:s.Shallow) (hb:s.ops.length ≤ 1000000) :
 Calls Tryz.prog 58 #[.pointer (some ⟨B.gs,0,none⟩),.slice pa m pc] w fun e w'=>e = .returned (.int .i64 (z6i s.ops P + 1)) ∧ Below w.heap.size w w':=by
 have HLK:=Lib.hid (fun n=>show ∃ (x:OpN) (qa:Option Addr) (qc:Nat),atE T.p (.agg (opV z05 none 0)) n = .agg (opV x qa qc) ∧ x.d.ref.length = 32 ∧ z0z s.ops n = x.depth from by
  obtain ⟨x,qa,qc,e1,_,e3,_,e5⟩:=z47 h.ops h.pm.nodup hro n
  refine ⟨x,qa,qc,e1,e3,?_⟩
  rcases e5 with ⟨_,_,e,_,_,i,hi,_⟩ | ⟨e,rfl,_⟩
  ·rw [← e]
   exact zh3 (by rw [← h.ops.keys];exact h.pm.nodup) hi
  ·exact zhr e)
 have HMD:=Lib.hid (fun P:List (List Nat)=>show 0 ≤ z6i s.ops P ∧ z6i s.ops P ≤ 1000000 from ⟨(z9q hsh (by omega) P).1,Int.le_trans (z9q hsh (by omega) P).2 (by omega)⟩)
 have HS:=Lib.hid h
 have HPA:=Lib.hid hp
 have HPI:=Lib.hid hP
 have HM:=Shut.mk hm
 clear h hp hP hm hro hsh hb
 go_enter Tryz.func58,Tryz.ntmps58
 go_upto_region 2 with (fail)
 go_wp2_with fail
 have H0:=Shut.mk (show z6i s.ops (P.take 0) = 0 from rfl)
 go_loopw [10,5] (fun i g wr=>∃ k:Nat,k ≤ m ∧ i = .int .i64 k ∧ g = .int .i64 (z6i s.ops (P.take k)) ∧ Below w.heap.size w wr) (fun i _ _=>m - (intOf i).toNat)
 case atStart=>exact ⟨0,Nat.zero_le _,rfl,by rw [H0.out],Below.refl _ _⟩
 case round =>
  obtain ⟨k,hk,rfl,rfl,hbw⟩:=hrel
  have HB:=Lib.hid hbw
  have HPW:=Lib.hid (HPA.out.below hbw)
  have HSW:=Lib.hid (HS.out.below hbw)
  clear hbw
  have hmd:=HMD.out (P.take k)
  obtain ⟨D,hD⟩:∃ D,z6i s.ops (P.take k) = D:=⟨_,rfl⟩
  rw [hD] at hmd ⊢
  have HD:=Shut.mk hD
  clear hD
  by_cases hlt:k < m
  ·obtain ⟨b,ob,rfl,hbl⟩:=HPW.out.some (by rw [HM.out];omega)
   have g1:=HPW.out.get (i:=k) (by rw [HM.out];omega)
   have i1:=Ids.getD HPI.out (i:=k) (by rw [HM.out];omega)
   obtain ⟨x,hx⟩:∃ x,P.getD k [] = x:=⟨_,rfl⟩
   rw [hx] at g1 i1
   have HXE:=Shut.mk hx
   have HXI:=Lib.hid i1
   have HG1:=Lib.hid g1
   have HS1:=Lib.hid (show (Tryz.prog.info? 25).map (·.size) = some x.length by rw [i1.1];exact Tryz.sizeI)
   have HL2:=Lib.hid (show (List.replicate 32 0).length = x.length by rw [i1.1];rfl)
   obtain ⟨y,qa,qc,e1,e2,e3⟩:=HLK.out x
   have HE1:=Shut.mk e1
   have HE2:=Lib.hid e2
   have HNX:=Shut.mk (show z6i s.ops (P.take (k + 1)) = if D < y.depth then y.depth else D by rw [zff (by rw [HM.out];exact hlt),hx,HD.out,e3])
   clear hx g1 i1 hbl e1 e2 e3
   go_wp2_with (first
    | (refine z0a rfl 25 _ rfl b (ob + k * 32) x _ rfl HG1.out Tryz.underlying25 rfl HS1.out ?_)
    | (refine z06 rfl 25 _ _ rfl rfl wr.heap.size .u8 (List.replicate 32 0) x 25 rfl rfl (heap_alloc_new wr _) HS1.out HL2.out ?_))
   intro w5 hc' hb'
   have HB5a:=Lib.hid (show Below wr.heap.size wr w5 from But.toBelow ((Below.refl _ _).alloc (Nat.le_refl _) _) hb'.out (Nat.le_refl _) (by rw [World.size_alloc];exact Nat.le_succ _))
   have HB5:=Lib.hid (HB.out.trans (HB5a.out.mono HB.out.size))
   have HS5:=Lib.hid (fun w' (hb:Below w5.heap.size w5 w')=>(HSW.out.below HB5a.out).below hb)
   have HC5:=Lib.hid (fun w' (hb:Below w5.heap.size w5 w')=>show Blk wr.heap.size 25 .u8 x w' from Blk.below (show Blk wr.heap.size 25 .u8 x w5 from hc'.out) hb)
   clear hc' hb'
   go_upto_region 5 with (fail)
   have HCE:=Lib.hid (fun w' (hb:Below w5.heap.size w5 w')=>(HS5.out w' hb).cell.1)
   refine z0c (fun w'=>Below w5.heap.size w5 w') 9 (by kernel_rfl) (by kernel_rfl) (Below.refl _ _).drew ?_
   simp only [zC,zD,zE,zF]
   repeat (first
    | (go_big_quiet_want;refine z03 76 _ rfl ⟨B.gs,0,none⟩ _ rfl HCE.out Tryz.isAgg76 ?_;go_big_quiet_on;simp only [Act.put,zS,zA,zB])
    | (go_big_quiet_want;refine z0x 25 _ rfl wr.heap.size .u8 x 25 _ rfl HC5.out Tryz.underlying25 rfl HS1.out ?_;go_big_quiet_on;simp only [Act.put,zS,zA,zB])
    | (go_big_quiet_want;refine z3b _ _ 76 25 38 false rfl Tryz.idKey Tryz.underlying76 (.agg (opV z05 none 0)) z6m B.p T.p (fun w' hb=>(HS5.out w' hb).pm) x HXI.out rfl rfl _ HE1.out ?_;go_big_quiet_on;simp only [Act.put,zS,zA,zB])
    | (go_big_quiet_want;refine zhm _ rfl y qa qc HE2.out rfl ?_;go_big_quiet_on;simp only [Act.put,zS,zA,zB])
    | go_big_quiet_step ((intro hs';rfl)))
   refine wpQuiet_nil ?_
   intro w6 hs6
   have HB6:=Lib.hid (HB5.out.trans (hs6.mono HB5.out.size))
   clear hs6
   obtain ⟨D2,hD2⟩:∃ D2,(if D < y.depth then y.depth else D) = D2:=⟨_,rfl⟩
   have HN2:=Shut.mk (HNX.out.trans hD2)
   have hD3:max D y.depth = D2:=by rw [← hD2];split <;> omega
   first | rw [hD2] | rw [hD3]
   clear hD2 hD3 HNX
   go_wp2_with fail
   exact ⟨⟨k + 1,by omega,by go_num,by rw [HN2.out],HB6.out⟩,by simp [intOf];omega⟩
  ·obtain rfl:k = m:=by omega
   have HR:=Shut.mk (show z6i s.ops P = D by rw [← HD.out,List.take_of_length_le (by rw [HM.out];exact Nat.le_refl _)])
   go_wp2_with fail
   go_ret
   exact ⟨by rw [HR.out];rfl,HB.out⟩
theorem zif (X:Nat → Prop) (B:Bs) (T:Ents) (s:DagN) (hs:List (List Nat)) (M:Bh) (o:OpN) (pa:Option Addr) (pc:Nat) (w:World) (h:SetAt X B T s hs M w) (ho:o.d.ref.length = 32) (hP:Ids o.preds) (hp:IAt pa o.preds w) (hq:o.preds.length ≤ 1000000) (hro:∀ x ∈ s.ops,x.d.ref.length = 32) (hsh:s.Shallow) (hb:s.ops.length ≤ 1000000) :
 Calls Tryz.prog 47 #[.pointer (some ⟨B.gs,0,none⟩),.agg (opV o pa pc)] w fun e w'=>e = .returned (.bool (decide (o.depth = z1p s.ops o))) ∧ Below w.heap.size w w':=by
 have b1:Below w.heap.size w (w.alloc (.cells (opV o pa pc) 38)):=(Below.refl _ _).alloc (Nat.le_refl _) _
 have x1:Cells w.heap.size 38 (opV o pa pc) (w.alloc (.cells (opV o pa pc) 38)):=heap_alloc_new w _
 have HB:=Lib.hid b1
 have HX:=Lib.hid x1
 obtain ⟨m,hm⟩:∃ m,o.preds.length = m:=⟨_,rfl⟩
 have HD:=Lib.hid (fun w1 (b:Below w.heap.size w w1)=>zle X B T s hs M o.preds pa m pc w1 (h.below b) hP (hp.below b) hm (hm ▸ hq) hro hsh hb)
 have HE:=Shut.mk (show z1p s.ops o = z6i s.ops o.preds + 1 from rfl)
 obtain ⟨DD,hDD⟩:∃ DD,z1p s.ops o = DD:=⟨_,rfl⟩
 rw [hDD] at HE ⊢
 rw [← HE.out] at HD
 have HO:=Lib.hid ho
 have HM:=Shut.mk hm
 clear h b1 x1 hp ho hP hm hro hsh hb hq HE hDD
 go_enter Tryz.func47,Tryz.ntmps47
 go_upto_region 1 with (fail)
 obtain ⟨w1,hw1⟩:∃ x,x = w.alloc (.cells (opV o pa pc) 38):=⟨_,rfl⟩
 rw [← hw1] at HB HX ⊢
 clear hw1
 have HC36:=Lib.hid (fun w' (hb:Below w1.heap.size w1 w')=>(z0j HO.out (HX.out.below hb)).2.2.1)
 have HC37:=Lib.hid (fun w' (hb:Below w1.heap.size w1 w')=>(z0j HO.out (HX.out.below hb)).2.2.2)
 rw [HM.out] at HC37
 have HD1:=Lib.hid (fun w' (hb:Below w1.heap.size w1 w')=>HD.out w' (HB.out.trans (hb.mono HB.out.size)))
 refine z0c (fun w'=>Below w1.heap.size w1 w') 7 (by kernel_rfl) (by kernel_rfl) (Below.refl _ _).drew ?_
 simp only [zC,zD,zE,zF]
 repeat (first
  | (go_big_quiet_want;refine z03 3 _ rfl ⟨w.heap.size,36,none⟩ _ rfl HC36.out Tryz.isAgg3 ?_;go_big_quiet_on;simp only [Act.put,zS,zA,zB])
  | (go_big_quiet_want;refine z03 34 _ rfl ⟨w.heap.size,37,none⟩ _ rfl HC37.out Tryz.isAgg34 ?_;go_big_quiet_on;simp only [Act.put,zS,zA,zB])
  | go_big_quiet_step ((intro hs';first
   | (go_at_call 58;exact (HD1.out _ hs').mono fun e w' h=>⟨h.1,hs'.trans (h.2.mono hs'.size)⟩)
   | rfl)))
 refine wpQuiet_nil ?_
 intro w6 hs6
 have HB6:=Lib.hid (HB.out.trans (hs6.mono HB.out.size))
 clear hs6
 go_wp2_with fail
 go_ret
 exact ⟨by congr 2,HB6.out⟩
theorem zhf {P:Program} {o:Oper} {a:Act} {w:World} {K:Act → World → Prop} {Q:Exit → Act → World → Prop} (m x:Operand) (T:TypeId) (ho:o.op = .mapEntry T m x) (b:Nat) (n:List Nat) (r:Value) (C:World → Prop) (hr:∃ w',(Instr.mapEntry T (.map (some b)) (idV n)).run P w = .ok r w' ∧ C w')
 (hm:a.eval m = .map (some b)) (hx:a.eval x = idV n) (h:∀ w',C w' → K (a.put o.dst r) w'):OpWp P o a w K Q:=by
 refine ⟨?_⟩
 obtain ⟨w',h1,h2⟩:=hr
 unfold Oper.wp execOp
 simp only [ho,hm,hx,h1,Sem.run_bind,Sem.run_pure,Result.andThen_ok]
 exact h w' h2
theorem Blk.only {O:Nat → Prop} {g:Nat} {t:TypeId} {k:IntKind} {l:List Nat} {w w':World} (h:Blk g t k l w) (ho:Only O w w') (hb:¬ O g):Blk g t k l w':=(ho.block g h.lt hb).trans h
structure WtI (w1:World) (bb:Nat) (L:List (List Nat × Value)) (p n:List Nat) (r:Value) (l:List (List Nat)) (born:Int) (s:Nat → Bool) (V:Nat → Value) (w:World):Prop where
 on:Only (fun b=>r.ownBlock = some b ∨ b = bb) w1 w
 lit:s 6 = true → ∃ g,V 6 = .slice (some ⟨g,0,none⟩) 1 1 ∧ w1.heap.size ≤ g ∧ Blk g 25 .u8 n w
 map0:s 7 = false → w.heap[bb]? = w1.heap[bb]?
 map1:s 7 = true → V 7 = .tuple #[r,.int .i64 born] ∧ MapE bb (zhu L (.slice none 0 0) p) p born w
 row0:s 9 = false → OwnI 0 25 r l w
 row1:s 9 = true → OwnI 0 25 (V 9) (l ++ [n]) w ∧ Moved (V 9) r w1
section
variable {w1 w w':World} {bb:Nat} {L:List (List Nat × Value)} {p n:List Nat} {r:Value} {l:List (List Nat)} {born:Int} {s:Nat → Bool} {V:Nat → Value}
theorem WtI.none (h2:OwnI 0 25 r l w1):WtI w1 bb L p n r l born (fun _=>false) V w1.drew :=
 ⟨Only.of (Below.refl _ _).drew,(fun h=>by cases h),fun _=>rfl,(fun h=>by cases h),fun _=>h2.below (Below.refl _ _).drew,(fun h=>by cases h)⟩
theorem z12 {s:Nat → Bool} {i k:Nat} (h:i ≠ k) (b:Bool):((s i || i == k) = b) = (s i = b):=by rw [beq_false_of_ne h,Bool.or_false]
theorem WtI.ne {k:Nat} {u:Value} (h:WtI w1 bb L p n r l born s V w) (h6:6 ≠ k) (h7:7 ≠ k) (h9:9 ≠ k):WtI w1 bb L p n r l born (fun i=>s i || i == k) (upd V k u) w:=by
 refine ⟨h.on,fun hs=>?_,fun hs=>?_,fun hs=>?_,fun hs=>?_,fun hs=>?_⟩
 ·rw [z23 V u h6];exact h.lit (by rwa [z12 h6] at hs)
 ·exact h.map0 (by rwa [z12 h7] at hs)
 ·rw [z23 V u h7];exact h.map1 (by rwa [z12 h7] at hs)
 ·exact h.row0 (by rwa [z12 h9] at hs)
 ·rw [z23 V u h9];exact h.row1 (by rwa [z12 h9] at hs)
theorem WtI.made (h:WtI w1 bb L p n r l born s V w) (hbb:bb < w1.heap.size) (hb:Below w.heap.size w w') (hg:Blk w.heap.size 25 .u8 n w'):WtI w1 bb L p n r l born (fun i=>s i || i == 6) (upd V 6 (.slice (some ⟨w.heap.size,0,Option.none⟩) 1 1)) w':=by
 refine ⟨h.on.below hb,fun _=>⟨w.heap.size,z2p _ _ _,h.on.size,hg⟩,fun hs=>?_,fun hs=>?_,fun hs=>?_,fun hs=>?_⟩
 ·exact (hb.block bb (Nat.lt_of_lt_of_le hbb h.on.size)).trans (h.map0 (by rwa [z12 (by decide)] at hs))
 ·obtain ⟨e1,e2⟩:=h.map1 (by rwa [z12 (by decide)] at hs)
  exact ⟨by rw [z23 V _ (by decide)];exact e1,e2.only (Only.of (O:=fun _=>False) hb) id⟩
 ·exact (h.row0 (by rwa [z12 (by decide)] at hs)).below hb
 ·obtain ⟨e1,e2⟩:=h.row1 (by rwa [z12 (by decide)] at hs)
  rw [z23 V _ (by decide)]
  exact ⟨e1.below hb,e2⟩
theorem WtI.entry (h:WtI w1 bb L p n r l born s V w) (hbb:bb < w1.heap.size) (hL:MapN bb L w) (k:Only (fun x=>x = bb) w w') (hm:MapE bb (zhu L (.slice Option.none 0 0) p) p born w'):WtI w1 bb L p n r l born (fun i=>s i || i == 7) (upd V 7 (.tuple #[r,.int .i64 born])) w':=by
 have hnr:=hL
 refine ⟨⟨k.os.trans h.on.os,k.tape.trans h.on.tape,k.output.trans h.on.output,Nat.le_trans h.on.size k.size,fun i hi hn=>(k.block i (Nat.lt_of_lt_of_le hi h.on.size) (fun e=>hn (.inr e))).trans (h.on.block i hi hn)⟩,fun hs=>?_,fun hs=>?_,fun _=>⟨z2p _ _ _,hm⟩,fun hs=>?_,fun hs=>?_⟩
 ·obtain ⟨g,e1,e2,e3⟩:=h.lit (by rwa [z12 (by decide)] at hs)
  exact ⟨g,by rw [z23 V _ (by decide)];exact e1,e2,e3.only k (by omega)⟩
 ·simp at hs
 ·have hr:=h.row0 (by rwa [z12 (by decide)] at hs)
  exact hr.only k (fun g hg e=>hnr.notRow hr (e ▸ hg))
 ·obtain ⟨e1,e2⟩:=h.row1 (by rwa [z12 (by decide)] at hs)
  rw [z23 V _ (by decide)]
  exact ⟨e1.only k (fun g hg e=>hnr.notRow e1 (e ▸ hg)),e2⟩
theorem WtI.push {v:Value} (h:WtI w1 bb L p n r l born s V w) (hbb:bb < w1.heap.size) (hrl:∀ b,r.ownBlock = some b → b < w1.heap.size) (k:w.grownBy w' r.ownBlock) (hv:OwnI 0 25 v (l ++ [n]) w') (hl:v.ownBlock = r.ownBlock ∨ v.ownBlock = some w.heap.size) (hbr:r.ownBlock ≠ some bb):WtI w1 bb L p n r l born (fun i=>s i || i == 9) (upd V 9 v) w':=by
 have ko:Only (fun b=>r.ownBlock = some b) w w':=(Only.refl _ w).grown k (fun b hb=>.inl hb)
 refine ⟨⟨ko.os.trans h.on.os,ko.tape.trans h.on.tape,ko.output.trans h.on.output,Nat.le_trans h.on.size ko.size,fun i hi hn=>(ko.block i (Nat.lt_of_lt_of_le hi h.on.size) (fun e=>hn (.inl e))).trans (h.on.block i hi hn)⟩,fun hs=>?_,fun hs=>?_,fun hs=>?_,fun hs=>?_,fun _=>?_⟩
 ·obtain ⟨g,e1,e2,e3⟩:=h.lit (by rwa [z12 (by decide)] at hs)
  exact ⟨g,by rw [z23 V _ (by decide)];exact e1,e2,e3.only ko (fun e=>by have:=hrl g e;omega)⟩
 ·exact (ko.block bb (Nat.lt_of_lt_of_le hbb h.on.size) hbr).trans (h.map0 (by rwa [z12 (by decide)] at hs))
 ·obtain ⟨e1,e2⟩:=h.map1 (by rwa [z12 (by decide)] at hs)
  exact ⟨by rw [z23 V _ (by decide)];exact e1,e2.only ko hbr⟩
 ·simp at hs
 ·rw [z2p]
  exact ⟨hv,Moved.of hl h.on.size⟩
theorem zjm {o:Oper} {a:Act} {w:World} {K:Act → World → Prop} {Q:Exit → Act → World → Prop} (hg:o.guard = Option.none) (z:Operand) (t:TypeId) (ht:Tryz.prog.underlying t = some (.slice 25)) (ho:o.op = .buildSlice t 1 #[(0,z)]) (y:List Nat) (hy:y.length = 32) (hz:a.eval z = .agg (z07 .u8 y).toArray)
 (h:∀ w',Below w.heap.size w w' → Blk w.heap.size 25 .u8 y w' → K (a.put o.dst (.slice (some ⟨w.heap.size,0,Option.none⟩) 1 1)) w'):OpWp Tryz.prog o a w K Q :=
 z1q (ops:=#[]) hg (z13 hg t 25 z ho y hz hy ht Tryz.infoI32 (fun w' h1 h2=>⟨rfl,h w' h2.out h1.out⟩))
end
end Go.Proofs.YtnbldbbbibpobaaGreatDoor
