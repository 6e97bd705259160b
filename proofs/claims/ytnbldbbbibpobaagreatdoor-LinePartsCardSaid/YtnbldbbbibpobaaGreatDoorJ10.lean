/-
  Joined: The developers' wait. Written by dag/gen/gen_wait.py.; The developers' add.; Calls of a method through an interface value that holds a pointer.; A heap of names as mathematics: one goes up, one goes down, the least comes first.; A queue of names in memory; its methods but those that turn it.
-/
import Derived.ChangeKeysEq
import Derived.Test.YtnbldbbbibpobaaGreatDoorJ03
import Derived.Test.YtnbldbbbibpobaaGreatDoorJ04
import Derived.Test.YtnbldbbbibpobaaGreatDoorJ08
import Derived.Test.YtnbldbbbibpobaaGreatDoorJ09
set_option maxRecDepth 100000
set_option maxHeartbeats 8000000
namespace Go.Proofs.YtnbldbbbibpobaaGreatDoor
open Go.RowKit Go.BigFrame
def WaitPost (X:Nat → Prop) (B:Bs) (T:Ents) (s:DagN) (W':List OpN) (hs:List (List Nat)) (M:Bh) (n:List Nat) (o:OpN) (val:Value) (w:World) (e:Ending) (w':World):Prop :=
 (z1l s.names o = true ∧ e = .returned (.bool false) ∧ Below w.heap.size w w') ∨
 ∃ p v,p ∈ o.preds ∧ p ∉ s.names ∧ e = .returned (.bool true) ∧ SetAt X B ⟨T.p,z3c T.w n val,z3c T.b p v⟩ ⟨s.ops,W'⟩ hs (z3c M p (atB M p ++ [n])) w' ∧ Turn (SetO B T) (SetO B ⟨T.p,z3c T.w n val,z3c T.b p v⟩) w w'
theorem zij (X:Nat → Prop) (B:Bs) (T:Ents) (s:DagN) (hs:List (List Nat)) (M:Bh) (n:List Nat) (o:OpN) (pa:Option Addr) (pc:Nat) (W':List OpN) (w:World) (h:SetAt X B T s hs M w) (hX:∀ b,w.heap.size ≤ b → X b) (hn:IdOk n) (ho:o.d.ref.length = 32) (hP:Ids o.preds) (hp:IAt pa o.preds w) (hq:o.preds.length ≤ 1000000)
 (hE:EntsO X W' (z3c T.w n (.agg (opV o pa pc))) w) (hro:∀ x ∈ s.ops,x.d.ref.length = 32) (hl:∀ q,(atB M q).length ≤ 100000) :
 Calls Tryz.prog 46 #[.pointer (some ⟨B.gs,0,none⟩),.agg (z07 .u8 n).toArray,.agg (opV o pa pc)] w fun e w'=>WaitPost X B T s W' hs M n o (.agg (opV o pa pc)) w e w':=by
 have HLK:=Lib.hid (fun n=>z47 h.ops h.pm.nodup hro n)
 have HX0:=Lib.hid hX
 have HE:=Lib.hid hE
 have HL:=Lib.hid hl
 have HN:=Lib.hid hn
 have HO:=Lib.hid ho
 have HPI:=Lib.hid hP
 have hgs:=h.cells.lt
 have a1:Below w.heap.size w (w.alloc (.cells (z07 .u8 n).toArray 25)):=(Below.refl _ _).alloc (Nat.le_refl _) _
 have x1:Blk w.heap.size 25 .u8 n (w.alloc (.cells (z07 .u8 n).toArray 25)):=heap_alloc_new w _
 have s1:(w.alloc (.cells (z07 .u8 n).toArray 25)).heap.size = w.heap.size + 1:=World.size_alloc _ _
 have HSN:=Lib.hid (show (Tryz.prog.info? 25).map (·.size) = some n.length by rw [hn.1];exact Tryz.sizeI)
 have HSO:=Lib.hid (show (Tryz.prog.info? 38).map (·.size) = some (opV o pa pc).size by rw [z0b ho];exact Tryz.sizeO)
 have HW0:=Lib.hid h
 obtain ⟨m,hm⟩:∃ m,o.preds.length = m:=⟨_,rfl⟩
 have HM:=Shut.mk hm
 rw [hm] at hq
 go_enter Tryz.func46,Tryz.ntmps46
 go_upto_region 1 with (fail)
 obtain ⟨w1,hw1⟩:∃ x,x = w.alloc (.cells (z07 .u8 n).toArray 25):=⟨_,rfl⟩
 rw [← hw1] at a1 x1 s1 ⊢
 have a2:Below w1.heap.size w1 (w1.alloc (.cells (opV o pa pc) 38)):=(Below.refl _ _).alloc (Nat.le_refl _) _
 have x2:Cells w1.heap.size 38 (opV o pa pc) (w1.alloc (.cells (opV o pa pc) 38)):=heap_alloc_new w1 _
 obtain ⟨w2,hw2⟩:∃ x,x = w1.alloc (.cells (opV o pa pc) 38):=⟨_,rfl⟩
 rw [← hw2] at a2 x2 ⊢
 have hB:=a1.trans (a2.mono a1.size)
 have x12:=x1.below a2
 obtain ⟨g4,hg4⟩:∃ g,w.heap.size = g:=⟨_,rfl⟩
 rw [s1,hg4] at x2
 obtain ⟨g5,hg5⟩:∃ g,g4 + 1 = g:=⟨_,rfl⟩
 rw [hg4] at x12 ⊢
 rw [hg5] at x2 ⊢
 have HB:=Lib.hid hB
 have H4:=Lib.hid x12
 have H5:=Lib.hid x2
 have HS:=Lib.hid (h.below hB)
 have HPA:=Lib.hid (hp.below hB)
 have HG4:=Lib.hid hg4
 have HG5:=Lib.hid (show w.heap.size < g5 by omega)
 obtain ⟨_,_,_,c37⟩:=z0j HO.out H5.out
 rw [hm] at c37
 clear a1 a2 x1 x2 s1 hw1 hw2 hB x12 hg4 hg5 h hX hE hl hn ho hP hp hro hm hgs
 go_wp2_with fail
 clear c37
 go_loopw [14] (fun i wr=>∃ k:Nat,k ≤ m ∧ i = .int .i64 k ∧ (∀ j,j < k → o.preds.getD j [] ∈ s.names) ∧ Below w2.heap.size w2 wr) (fun i _=>m - (intOf i).toNat)
 case atStart=>exact ⟨0,Nat.zero_le _,rfl,fun j hj=>by omega,Below.refl _ _⟩
 case round =>
  obtain ⟨k,hk,rfl,hj,hbw⟩:=hrel
  have HJ:=Lib.hid hj
  have HBR:=Lib.hid hbw
  have HPW:=Lib.hid (HPA.out.below hbw)
  clear hj hbw
  by_cases hlt:k < m
  ·obtain ⟨b,ob,rfl,hbl⟩:=HPW.out.some (by rw [HM.out];omega)
   have gx:=HPW.out.get (i:=k) (by rw [HM.out];omega)
   have i1:=Ids.getD HPI.out (i:=k) (by rw [HM.out];omega)
   have hmem:o.preds.getD k [] ∈ o.preds:=by
    rw [List.getD_eq_getElem?_getD,List.getElem?_eq_getElem (by rw [HM.out];exact hlt)]
    exact List.getElem_mem _
   obtain ⟨x,hx⟩:∃ x,o.preds.getD k [] = x:=⟨_,rfl⟩
   rw [hx] at gx i1 hmem
   have HXE:=Shut.mk hx
   have HXI:=Lib.hid (show IdOk x from i1)
   have HXM:=Lib.hid hmem
   have HG1:=Lib.hid gx
   have HS1:=Lib.hid (show (Tryz.prog.info? 25).map (·.size) = some x.length by rw [i1.1];exact Tryz.sizeI)
   have HL2:=Lib.hid (show (List.replicate 32 0).length = x.length by rw [i1.1];rfl)
   obtain ⟨y,qa,qc,e1,e2,e3,_⟩:=HLK.out x
   obtain ⟨zb,hzb⟩:∃ zb,decide (x ∈ s.names) = zb:=⟨_,rfl⟩
   rw [show decide (x ∈ s.ops.map z00) = zb from hzb] at e2
   obtain ⟨Z,hZ⟩:∃ Z,opV y qa qc = Z:=⟨_,rfl⟩
   have HZB:=Shut.mk hzb
   have HZ:=Shut.mk (show Value.tuple #[atE T.p (.agg (opV z05 none 0)) x,.bool (decide (x ∈ T.p.map (·.1)))] = .tuple #[.agg Z,.bool zb] by rw [e1,e2,hZ])
   have HI1:=Lib.hid (show (Tryz.prog.info? 38).map (·.size) = some Z.size by rw [← hZ,z0b e3];exact Tryz.sizeO)
   have HL1:=Lib.hid (show (opV z05 none 0).size = Z.size by rw [← hZ,z0b e3];rfl)
   have HA1:=Lib.hid (show Z.all (·.oneCell') = true by rw [← hZ];exact zbl _ _ _)
   clear hx gx i1 hbl e1 e2 e3 hzb hZ hmem
   go_wp2_with (first
    | (refine z0a rfl 25 _ rfl b (ob + k * 32) x _ rfl HG1.out Tryz.underlying25 rfl HS1.out ?_)
    | (refine z06 rfl 25 _ _ rfl rfl wr.heap.size .u8 (List.replicate 32 0) x 25 rfl rfl (heap_alloc_new wr _) HS1.out HL2.out ?_))
   intro w5 hc' hb'
   have HB5a:=Lib.hid (show Below wr.heap.size wr w5 from But.toBelow ((Below.refl _ _).alloc (Nat.le_refl _) _) hb'.out (Nat.le_refl _) (by rw [World.size_alloc];exact Nat.le_succ _))
   have HB5:=Lib.hid (HBR.out.trans (HB5a.out.mono HBR.out.size))
   have HS5:=Lib.hid (HS.out.below HB5.out)
   obtain ⟨g8,hg8⟩:∃ g,wr.heap.size = g:=⟨_,rfl⟩
   have HC5:=Lib.hid (show Blk g8 25 .u8 x w5 from hg8 ▸ hc'.out)
   have HG8:=Lib.hid (show w2.heap.size ≤ g8 from hg8 ▸ HBR.out.size)
   rw [hg8]
   clear hc' hb' hg8 HG1
   go_upto_region 4 with (fail)
   refine z0e 11 (fun q V w'=>Val q V 0 (.pointer (some ⟨B.gs,0,none⟩)) ∧ Val q V 1 (.pointer (some ⟨B.gs,0,none⟩)) ∧ Val q V 2 (.pointer (some ⟨B.gs,0,none⟩)) ∧ Val q V 3 (.map (some B.p)) ∧ Val q V 4 (.agg (z07 .u8 x).toArray) ∧ Val q V 5 (.tuple #[.agg Z,.bool zb]) ∧ Val q V 6 (.tuple #[.agg Z,.bool zb]) ∧ Val q V 7 (.agg Z) ∧ Val q V 8 (.bool zb) ∧ PutC q V w5.heap.size 9 10 38 (opV z05 none 0) (Z) w' ∧ Below w5.heap.size w5 w' ∧ Late q 9 10) (fun | 0=>u19 | 1=>u20 | 2=>u21 | 3=>u22 | 4=>u23 | 5=>u24 | 6=>u18 | 7=>u25 | 8=>u26 | 9=>u9 | 10=>undef | _=>undef) (by kernel_rfl) (by kernel_rfl) (by kernel_rfl) (by simp only [zC,zD,z0h,Act.put,zS,zA,zB]) ⟨Val.none,Val.none,Val.none,Val.none,Val.none,Val.none,Val.none,Val.none,Val.none,PutC.none,(Below.refl _ _).drew,Late.none⟩ ?_ ?_
   ·simp only [zC,zD,z0h,Nat.zero_add,Nat.reduceAdd,Act.put,zS,zA,zB]
    refine zQc ?_ (zQc ?_ (zQc ?_ (zQc ?_ (zQc ?_ (zQc ?_ (zQc ?_ (zQc ?_ (zQc ?_ (zQc ?_ (zQc ?_ (zQn)))))))))))
    all_goals (refine zQf rfl ?_;rintro q V wq hr hu ⟨h0,h1,h2,h3,h4,h5,h6,h7,h8,h9,hb,hl9⟩ K hK)
    ·exact z0f (.tmp 0) rfl _ rfl (hK _ _ ⟨.same,h1.nd,h2.nd,h3.nd,h4.nd,h5.nd,h6.nd,h7.nd,h8.nd,h9.ne (by decide) (by decide) (Below.refl _ _),hb,hl9.nd⟩)
    ·exact z0l (.tmp 19) rfl ⟨B.gs,0,none⟩ (h0 (hr { on:=0,ground:=.data } (by simp) rfl)) (hK _ _ ⟨h0.nd,.same,h2.nd,h3.nd,h4.nd,h5.nd,h6.nd,h7.nd,h8.nd,h9.ne (by decide) (by decide) (Below.refl _ _),hb,hl9.nd⟩)
    ·exact z0m 80 (.tmp 20) 0 rfl _ _ (h1 (hr { on:=1,ground:=.data } (by simp) rfl)) (z5p B.gs 0 (by decide)) (hK _ _ ⟨h0.nd,h1.nd,.same,h3.nd,h4.nd,h5.nd,h6.nd,h7.nd,h8.nd,h9.ne (by decide) (by decide) (Below.refl _ _),hb,hl9.nd⟩)
    ·exact z0n 76 (.tmp 21) rfl _ _ (h2 (hr { on:=2,ground:=.data } (by simp) rfl)) (HS5.out.below hb).cell.1 Tryz.isAgg76 (hK _ _ ⟨h0.nd,h1.nd,h2.nd,.same,h4.nd,h5.nd,h6.nd,h7.nd,h8.nd,h9.ne (by decide) (by decide) (Below.refl _ _),hb,hl9.nd⟩)
    ·exact z1k 25 (.tmp 8) rfl g8 .u8 x 25 _ rfl (HC5.out.below hb) Tryz.underlying25 rfl HS1.out (hK _ _ ⟨h0.nd,h1.nd,h2.nd,h3.nd,.same,h5.nd,h6.nd,h7.nd,h8.nd,h9.ne (by decide) (by decide) (Below.refl _ _),hb,hl9.nd⟩)
    ·exact z3x (.tmp 22) (.tmp 23) 76 25 38 true rfl Tryz.idKey Tryz.underlying76 (.agg (opV z05 none 0)) (z6m wq) B.p T.p (HS5.out.below hb).pm x HXI.out (h3 (hr { on:=3,ground:=.data } (by simp) rfl)) (h4 (hr { on:=4,ground:=.data } (by simp) rfl)) _ (by rw [HZ.out];rfl) (hK _ _ ⟨h0.nd,h1.nd,h2.nd,h3.nd,h4.nd,.same,h6.nd,h7.nd,h8.nd,h9.ne (by decide) (by decide) (Below.refl _ _),hb,hl9.nd⟩)
    ·exact z0f (.tmp 24) rfl _ (h5 (hr { on:=5,ground:=.data } (by simp) rfl)) (hK _ _ ⟨h0.nd,h1.nd,h2.nd,h3.nd,h4.nd,h5.nd,.same,h7.nd,h8.nd,h9.ne (by decide) (by decide) (Below.refl _ _),hb,hl9.nd⟩)
    ·exact z2b (.tmp 18) 0 rfl _ _ (h6 (hr { on:=6,ground:=.data } (by simp) rfl)) (zah _ _) (hK _ _ ⟨h0.nd,h1.nd,h2.nd,h3.nd,h4.nd,h5.nd,h6.nd,.same,h8.nd,h9.ne (by decide) (by decide) (Below.refl _ _),hb,hl9.nd⟩)
    ·exact z2b (.tmp 18) 1 rfl _ _ (h6 (hr { on:=6,ground:=.data } (by simp) rfl)) (zak _ _) (hK _ _ ⟨h0.nd,h1.nd,h2.nd,h3.nd,h4.nd,h5.nd,h6.nd,h7.nd,.same,h9.ne (by decide) (by decide) (Below.refl _ _),hb,hl9.nd⟩)
    ·exact z3i 38 rfl (opV z05 none 0) z5g (hK _ _ ⟨h0.nd,h1.nd,h2.nd,h3.nd,h4.nd,h5.nd,h6.nd,h7.nd,h8.nd,PutC.made hb.size (hl9.not hu) (by decide),hb.alloc hb.size _,hl9.nd⟩)
    ·obtain ⟨g,hV,hg0,hc0⟩:=h9 (hr { on:=9,ground:=.data } (by simp) rfl)
     rw [if_neg (by rw [hu];decide)] at hc0
     refine z2c 38 (.tmp 9) (.tmp 25) rfl g _ (Z) 38 hV (h7 (hr { on:=7,ground:=.data } (by simp) rfl)) hc0 HI1.out HL1.out HA1.out ?_
     intro w' hc' hbt
     have hbn:=But.toBelow hb hbt hg0 hb.size
     exact (hK _ _ ⟨h0.nd,h1.nd,h2.nd,h3.nd,h4.nd,h5.nd,h6.nd,h7.nd,h8.nd,PutC.stored hV hg0 (by decide) hc',hbn,Late.same (hr { on:=9,ground:=.data } (by simp) rfl)⟩)
   rintro q V wq hall ⟨h0,h1,h2,h3,h4,h5,h6,h7,h8,h9,hb,hl9⟩
   have v0:=h0 (hall 0 (by decide))
   have v1:=h1 (hall 1 (by decide))
   have v2:=h2 (hall 2 (by decide))
   have v3:=h3 (hall 3 (by decide))
   have v4:=h4 (hall 4 (by decide))
   have v5:=h5 (hall 5 (by decide))
   have v6:=h6 (hall 6 (by decide))
   have v7:=h7 (hall 7 (by decide))
   have v8:=h8 (hall 8 (by decide))
   obtain ⟨g9,v9,hg9,hc9⟩:=h9 (hall 9 (by decide))
   rw [if_pos (hall 10 (by decide))] at hc9
   obtain ⟨u10,v10⟩:∃ v,V 10 = v:=⟨_,rfl⟩
   simp only [zC,zD,zE,zF,z0h,Nat.zero_add,Nat.reduceAdd,v0,v1,v2,v3,v4,v5,v6,v7,v8,v9,Act.put,zS,zA,zB]
   clear h0 h1 h2 h3 h4 h5 h6 h7 h8 v0 v1 v2 v3 v4 v5 v6 v7 v8 v9 v10 hall hl9
   have HC6:=Lib.hid (HC5.out.below hb)
   have HB6:=Lib.hid (HB5.out.trans (hb.mono HB5.out.size))
   clear hb hc9 hg9 HC5 HS5 HB5 HB5a HPW HBR
   obtain ⟨w6,hw6⟩:∃ x,x = wq:=⟨_,rfl⟩
   rw [← hw6] at HC6 HB6 ⊢
   clear hw6
   cases zb with
   | true =>
     have HIN:=Lib.hid (of_decide_eq_true HZB.out)
     clear HZB
     go_wp2_with fail
     refine ⟨⟨k + 1,by omega,by go_num,fun i hi=>?_,HB6.out⟩,by simp [intOf];omega⟩
     by_cases hqj:i = k
     ·subst hqj
      rw [HXE.out]
      exact HIN.out
     ·exact HJ.out i (by omega)
   | false =>
     have HNI:=Lib.hid (of_decide_eq_false HZB.out)
     clear HZB
     have HS6:=Lib.hid (HS.out.below HB6.out)
     have HBW6:=Lib.hid (HB.out.trans (HB6.out.mono HB.out.size))
     go_upto_region 6 with (fail)
     have HCE:=Lib.hid (fun w' (hb:Below w6.heap.size w6 w')=>(HS6.out.below hb).cell.2.1)
     have HI4:=Lib.hid (fun w' (hb:Below w6.heap.size w6 w')=>(H4.out.below HB6.out).below hb)
     have HI5:=Lib.hid (fun w' (hb:Below w6.heap.size w6 w')=>(H5.out.below HB6.out).below hb)
     refine z0c (fun w'=>Below w6.heap.size w6 w') 6 (by kernel_rfl) (by kernel_rfl) (Below.refl _ _).drew ?_
     simp only [zC,zD,zE,zF]
     repeat (first
      | (go_big_quiet_want;refine z03 76 _ rfl ⟨B.gs,1,none⟩ _ rfl HCE.out Tryz.isAgg76 ?_;go_big_quiet_on;simp only [Act.put,zS,zA,zB])
      | (go_big_quiet_want;refine z0x 25 _ rfl g4 .u8 n 25 _ rfl HI4.out Tryz.underlying25 rfl HSN.out ?_;go_big_quiet_on;simp only [Act.put,zS,zA,zB])
      | (go_big_quiet_want;refine z0k 38 _ rfl g5 _ 38 _ rfl HI5.out Tryz.underlying38 rfl HSO.out ?_;go_big_quiet_on;simp only [Act.put,zS,zA,zB])
      | go_big_quiet_step ((intro hs';rfl)))
     refine wpQuiet_nil ?_
     intro w61 hs61
     have HS61:=Lib.hid (HS6.out.below hs61)
     have HBW61:=Lib.hid (HBW6.out.trans (hs61.mono HBW6.out.size))
     have HE61:=Lib.hid (HE.out.below HBW61.out)
     have HWM:=Lib.hid HS61.out.wm
     have HB4:=Lib.hid ((H4.out.below HB6.out).below hs61)
     have HB8:=Lib.hid (HC6.out.below hs61)
     clear hs61 HCE HI4 HI5 HC6 HS6 HBW6
     go_wp2_with (refine z2x rfl _ _ _ 76 25 38 rfl Tryz.idKey Tryz.underlying76 B.w T.w HWM.out n HN.out _ rfl rfl rfl ?_)
     intro w7 hm7 ho7
     obtain ⟨hs7,ht7⟩:=HS61.out.putW ho7.out hm7.out HE61.out
     have HS7:=Lib.hid hs7
     have HT7:=Lib.hid ((Turn.of HBW61.out).trans ht7)
     have hg4w:w.heap.size = g4:=HG4.out
     have hbw:B.w < w.heap.size:=HW0.out.wm.lt
     have HBK4:=Lib.hid (HB4.out.only ho7.out (fun e=>by omega))
     have HBK8:=Lib.hid (HB8.out.only ho7.out (fun e=>by have:=HG8.out;have:=HB.out.size;omega))
     clear hm7 ho7 hs7 ht7 HB4 HB8 HS61 HBW61 HE61 HWM hg4w hbw
     obtain ⟨hr1,hr2,hr3⟩:=HS7.out.beh.row HS7.out.bm.nodup x
     obtain ⟨born,hme⟩:=HS7.out.bm.entryAt Tryz.idKey Tryz.underlying78 zhx HXI.out
     have hln:=HL.out x
     obtain ⟨R,hR⟩:∃ R,atE T.b (.slice none 0 0) x = R:=⟨_,rfl⟩
     obtain ⟨L,hL⟩:∃ L,atB M x = L:=⟨_,rfl⟩
     rw [hL] at hr1 hr3 hln
     have hRE:atE (Ents.mk T.p (z3c T.w n (.agg (opV o (some ⟨b,ob,none⟩) pc))) T.b).b (.slice none 0 0) x = R:=hR
     rw [hRE] at hr1 hr2 hme
     have HR:=Shut.mk hR
     have HLL:=Shut.mk hL
     have HRO:=Lib.hid hr1
     have HRX:=Lib.hid (fun b' hb'=>(hr2 b' hb').1)
     have HRW:=Lib.hid (fun b' (hb':R.ownBlock = some b')=>show b' < w.heap.size from by
      obtain ⟨q,v,hm,hv⟩:=(hr2 b' hb').2
      exact (SetO.x HW0.out (.inr (.inr (.inr (.inr (.inr ⟨q,v,hm,hv⟩)))))).2)
     have HRB:=Lib.hid (show R.ownBlock ≠ some B.b from fun e=>by
      obtain ⟨q,v,hm,hv⟩:=(hr2 _ e).2
      exact (HW0.out.rowne hm).2.2.2.2 hv)
     have HRG:=Lib.hid (show R.ownBlock ≠ some B.gs from fun e=>by
      obtain ⟨q,v,hm,hv⟩:=(hr2 _ e).2
      exact (HW0.out.rowne hm).1 hv)
     have HRL:=Lib.hid (fun b' (hb':R.ownBlock = some b')=>show b' < w7.heap.size from Nat.lt_of_lt_of_le (HRW.out b' hb') HT7.out.only.size)
     have HLI:=Lib.hid hr3
     have HLN:=Lib.hid (show L.length + [n].length ≤ 1000000 by simp;omega)
     have HME:=Lib.hid hme
     have HBL:=Lib.hid HS7.out.bm.lt
     have HMW:=Lib.hid (fun (w2:World) (e:w2.heap[B.b]? = w7.heap[B.b]?)=>show MapN B.b T.b w2 from by
      obtain ⟨es,clock,h1,h2⟩:=HS7.out.bm.ex
      exact ⟨⟨es,clock,e.trans h1,h2⟩,HS7.out.bm.ok,HS7.out.bm.nodup⟩)
     have HCF:=Lib.hid (fun (w2:World) (k:Only (fun b=>R.ownBlock = some b ∨ b = B.b) w7 w2)=>show w2.cell? ⟨B.gs,3,none⟩ = some (.map (some B.b)) from by
      rw [(HS7.out.cells.only k (fun e=>e.elim HRG.out HS7.out.gsne.2.2.2)).at 3]
      rfl)
     have hg4w:w.heap.size = g4:=HG4.out
     have hbb:B.b < w.heap.size:=HW0.out.bm.lt
     have HB4:=Lib.hid (fun (w2:World) (k:Only (fun b=>R.ownBlock = some b ∨ b = B.b) w7 w2)=>HBK4.out.only k (fun e=>e.elim (fun e=>by have:=HRW.out _ e;omega) (fun e=>by omega)))
     have HB8:=Lib.hid (fun (w2:World) (k:Only (fun b=>R.ownBlock = some b ∨ b = B.b) w7 w2)=>HBK8.out.only k (fun e=>by have:=HG8.out;have:=HB.out.size;exact e.elim (fun e=>by have:=HRW.out _ e;omega) (fun e=>by omega)))
     clear hr1 hr2 hr3 hme hln hR hL hRE hg4w hbb
     go_upto_region 7 with (fail)
     refine z0e 11 (fun q V w'=>Val q V 0 (.pointer (some ⟨B.gs,0,none⟩)) ∧ Val q V 1 (.pointer (some ⟨B.gs,0,none⟩)) ∧ Val q V 2 (.pointer (some ⟨B.gs,3,none⟩)) ∧ Val q V 3 (.map (some B.b)) ∧ Val q V 4 (.agg (z07 .u8 x).toArray) ∧ Val q V 5 (.agg (z07 .u8 n).toArray) ∧ Val q V 8 (R) ∧ Val q V 10 (.int .i64 born) ∧ True ∧ WtI w7 B.b T.b x n R L born q V w') (fun | 0=>u35 | 1=>u36 | 2=>u37 | 3=>u38 | 4=>u39 | 5=>u41 | 6=>u42 | 7=>u43 | 8=>u40 | 9=>u44 | 10=>u45 | _=>undef) (by kernel_rfl) (by kernel_rfl) (by kernel_rfl) (by simp only [zC,zD,z0h,Act.put,zS,zA,zB]) ⟨Val.none,Val.none,Val.none,Val.none,Val.none,Val.none,Val.none,Val.none,trivial,WtI.none HRO.out⟩ ?_ ?_
     ·simp only [zC,zD,z0h,Nat.zero_add,Nat.reduceAdd,Act.put,zS,zA,zB]
      refine zQc ?_ (zQc ?_ (zQc ?_ (zQc ?_ (zQc ?_ (zQc ?_ (zQc ?_ (zQc ?_ (zQc ?_ (zQc ?_ (zQc ?_ (zQn)))))))))))
      all_goals (refine zQf rfl ?_;rintro q V wq hr hu ⟨h0,h1,h2,h3,h4,h5,h8,h10,hb,hw⟩ K hK)
      ·exact z0f (.tmp 0) rfl _ rfl (hK _ _ ⟨.same,h1.nd,h2.nd,h3.nd,h4.nd,h5.nd,h8.nd,h10.nd,hb,hw.ne (by decide) (by decide) (by decide)⟩)
      ·exact z0l (.tmp 35) rfl ⟨B.gs,0,none⟩ (h0 (hr { on:=0,ground:=.data } (by simp) rfl)) (hK _ _ ⟨h0.nd,.same,h2.nd,h3.nd,h4.nd,h5.nd,h8.nd,h10.nd,hb,hw.ne (by decide) (by decide) (by decide)⟩)
      ·exact z0m 80 (.tmp 36) 3 rfl _ _ (h1 (hr { on:=1,ground:=.data } (by simp) rfl)) (z5p B.gs 3 (by decide)) (hK _ _ ⟨h0.nd,h1.nd,.same,h3.nd,h4.nd,h5.nd,h8.nd,h10.nd,hb,hw.ne (by decide) (by decide) (by decide)⟩)
      ·exact z0n 78 (.tmp 37) rfl _ _ (h2 (hr { on:=2,ground:=.data } (by simp) rfl)) (HCF.out wq hw.on) Tryz.isAgg78 (hK _ _ ⟨h0.nd,h1.nd,h2.nd,.same,h4.nd,h5.nd,h8.nd,h10.nd,hb,hw.ne (by decide) (by decide) (by decide)⟩)
      ·exact z1k 25 (.tmp 8) rfl g8 .u8 x 25 _ rfl (HB8.out wq hw.on) Tryz.underlying25 rfl HS1.out (hK _ _ ⟨h0.nd,h1.nd,h2.nd,h3.nd,.same,h5.nd,h8.nd,h10.nd,hb,hw.ne (by decide) (by decide) (by decide)⟩)
      ·exact z1k 25 (.tmp 4) rfl g4 .u8 n 25 _ rfl (HB4.out wq hw.on) Tryz.underlying25 rfl HSN.out (hK _ _ ⟨h0.nd,h1.nd,h2.nd,h3.nd,h4.nd,.same,h8.nd,h10.nd,hb,hw.ne (by decide) (by decide) (by decide)⟩)
      ·refine zjm rfl (.tmp 41) 34 Tryz.underlying34 rfl n HN.out.1 (h5 (hr { on:=5,ground:=.data } (by simp) rfl)) ?_
       intro w' hb' hbk
       have hbn:=trivial
       have hw6:=hw.made HBL.out hb' hbk
       exact (hK _ _ ⟨h0.nd,h1.nd,h2.nd,h3.nd,h4.nd,h5.nd,h8.nd,h10.nd,hbn,hw6⟩)
      ·refine zhf (.tmp 38) (.tmp 39) 78 rfl B.b x (.tuple #[R,.int .i64 born]) _ (HME.out wq (hw.map0 hu)) (h3 (hr { on:=3,ground:=.data } (by simp) rfl)) (h4 (hr { on:=4,ground:=.data } (by simp) rfl)) ?_
       rintro w' ⟨hme,hk7⟩
       have hbn:=trivial
       have hw7:=hw.entry HBL.out (HMW.out wq (hw.map0 hu)) hk7 hme
       exact (hK _ _ ⟨h0.nd,h1.nd,h2.nd,h3.nd,h4.nd,h5.nd,h8.nd,h10.nd,hbn,hw7⟩)
      ·exact z2b (.tmp 43) 0 rfl _ _ (hw.map1 (hr { on:=7,ground:=.data } (by simp) rfl)).1 rfl (hK _ _ ⟨h0.nd,h1.nd,h2.nd,h3.nd,h4.nd,h5.nd,.same,h10.nd,hb,hw.ne (by decide) (by decide) (by decide)⟩)
      ·obtain ⟨g,e6,hg6,hk6⟩:=hw.lit (hr { on:=6,ground:=.data } (by simp) rfl)
       refine z3n rfl (.tmp 40) (.tmp 42) rfl 0 R L [n] (Ids.one HN.out.1 HN.out.2) (some ⟨g,0,none⟩) 1 1 rfl (h8 (hr { on:=8,ground:=.data } (by simp) rfl)) (hw.row0 hu) e6 (z5m hk6) (fun h=>by cases h) HLN.out (Nat.zero_le _) ?_
       intro v' w' ho' hg' hd'
       have hbn:=trivial
       have hw9:=hw.push HBL.out HRL.out hg' ho' hd' HRB.out
       exact (hK _ _ ⟨h0.nd,h1.nd,h2.nd,h3.nd,h4.nd,h5.nd,h8.nd,h10.nd,hbn,hw9⟩)
      ·exact z2b (.tmp 43) 1 rfl _ _ (hw.map1 (hr { on:=7,ground:=.data } (by simp) rfl)).1 rfl (hK _ _ ⟨h0.nd,h1.nd,h2.nd,h3.nd,h4.nd,h5.nd,h8.nd,.same,hb,hw.ne (by decide) (by decide) (by decide)⟩)
     rintro q V wq hall ⟨h0,h1,h2,h3,h4,h5,h8,h10,hb,hw⟩
     have v0:=h0 (hall 0 (by decide))
     have v1:=h1 (hall 1 (by decide))
     have v2:=h2 (hall 2 (by decide))
     have v3:=h3 (hall 3 (by decide))
     have v4:=h4 (hall 4 (by decide))
     have v5:=h5 (hall 5 (by decide))
     obtain ⟨u6,v6⟩:∃ v,V 6 = v:=⟨_,rfl⟩
     obtain ⟨u7,v7⟩:∃ v,V 7 = v:=⟨_,rfl⟩
     have v8:=h8 (hall 8 (by decide))
     obtain ⟨u9,v9⟩:∃ v,V 9 = v:=⟨_,rfl⟩
     have v10:=h10 (hall 10 (by decide))
     have hend:=hw
     have ht7:=(hend.map1 (hall 7 (by decide))).2
     have ht9:=hend.row1 (hall 9 (by decide))
     have hton:=hend.on
     clear hw hend
     rw [v9] at ht9
     simp only [zC,zD,zE,zF,z0h,Nat.zero_add,Nat.reduceAdd,v0,v1,v2,v3,v4,v5,v6,v7,v8,v9,v10,Act.put,zS,zA,zB]
     clear h0 h1 h2 h3 h4 h5 h8 h10 v0 v1 v2 v3 v4 v5 v6 v7 v8 v9 v10 hall
     have HT9:=Lib.hid ht9
     have HTE:=Lib.hid ht7
     have HON:=Lib.hid hton
     clear ht9 ht7 hton
     go_wp2_with (refine z7o rfl _ _ _ 78 rfl B.b (zhu T.b (.slice none 0 0) x) x born HTE.out HXI.out u9 rfl rfl rfl ?_)
     intro w9 hm9 ho9
     have hm9':=hm9.out
     rw [put_ent _ _ HS7.out.bm.nodup] at hm9'
     have hov:=HT9.out.1.only ho9.out (fun g hg e=>HTE.out.map.notRow HT9.out.1 (e ▸ hg))
     have hk9:Only (fun b=>R.ownBlock = some b ∨ b = B.b) w7 w9:=HON.out.trans ho9.out (fun b e=>.inl (.inr e))
     have hput:=HS7.out.putB x (l:=L ++ [n]) (v:=u9) (HLI.out.append (Ids.one HN.out.1 HN.out.2)) (by rw [show atE (Ents.mk T.p (z3c T.w n (.agg (opV o (some ⟨b,ob,none⟩) pc))) T.b).b (.slice none 0 0) x = R from HR.out];exact hk9) hov (by rw [show atE (Ents.mk T.p (z3c T.w n (.agg (opV o (some ⟨b,ob,none⟩) pc))) T.b).b (.slice none 0 0) x = R from HR.out];exact HT9.out.2) (fun b hb=>(HT9.out.2 b hb).elim (HRX.out b) (fun e=>HX0.out b (Nat.le_trans HT7.out.only.size e))) hm9'
     have HF:=Lib.hid (show WaitPost X B T s W' hs M n o (.agg (opV o (some ⟨b,ob,none⟩) pc)) w (.returned (.bool true)) w9 from .inr ⟨x,u9,HXM.out,HNI.out,rfl,by rw [HLL.out];exact hput.1,HT7.out.trans hput.2⟩)
     clear hm9 hm9' ho9 hov hk9 hput
     go_wp2_with fail
     go_ret
     exact HF.out
  ·obtain rfl:k = m:=by omega
   have HR:=Lib.hid (show z1l s.names o = true from wholeN_iff.2 (fun p hp=>by
    obtain ⟨j,hj,rfl⟩:=List.getElem_of_mem hp
    have:=HJ.out j (by rw [← HM.out];exact hj)
    rwa [List.getD_eq_getElem?_getD,List.getElem?_eq_getElem hj] at this))
   have HBE:=Lib.hid (HB.out.trans (HBR.out.mono HB.out.size))
   go_wp2_with fail
   go_ret
   exact .inl ⟨HR.out,rfl,HBE.out⟩
theorem zm1 (hs:List (List Nat)) (x:List Nat):z5b (z41 hs) x = z41 (hs.filter fun n=>!decide (n = x)):=by
 rw [z5b,z41,z41,List.filter_map]
 rfl
theorem zhl {hs P:List (List Nat)} {k:Nat} (hk:k < P.length):(hs.filter fun n=>!decide (n ∈ P.take k)).filter (fun n=>!decide (n = P.getD k [])) = hs.filter fun n=>!decide (n ∈ P.take (k + 1)):=by
 rw [List.filter_filter]
 refine List.filter_congr fun n _=>?_
 rw [List.take_succ_eq_append_getElem hk,List.getD_eq_getElem?_getD,List.getElem?_eq_getElem hk,Option.getD_some]
 rw [← Bool.not_or]
 congr 1
 rw [← Bool.decide_or]
 refine decide_eq_decide.2 ?_
 rw [List.mem_append,List.mem_singleton]
 exact Or.comm
theorem Tryz.built_unit:Tryz.prog.built 92 [] = some #[]:=by kernel_rfl
theorem zjl {o:Oper} {a:Act} {C:World → Prop} {K:Act → Prop} (ho:o.op = .build 92 #[]) (h:K (a.put o.dst (.agg #[]))):o.quiet Tryz.prog a C K:=by
 exact z7d 92 #[] ho [] #[] (by simp) Tryz.built_unit h
theorem zlj (X:Nat → Prop) (B:Bs) (T:Ents) (s:DagN) (hs:List (List Nat)) (M:Bh) (n:List Nat) (o:OpN) (pa:Option Addr) (pc:Nat) (w:World) (h:SetAt X B T s hs M w) (hne:z00 o = n) (ho:o.d.ref.length = 32) (hP:Ids o.preds) (hp:IAt pa o.preds w) (hoff:OffX X pa o.preds) (hq:o.preds.length ≤ 1000000)
 (hnew:n ∉ s.names) (hnh:n ∉ hs) :
 Calls Tryz.prog 78 #[.pointer (some ⟨B.gs,0,none⟩),.agg (z07 .u8 n).toArray,.agg (opV o pa pc)] w fun e w'=>e = .returned (.tuple #[]) ∧
  SetAt X B ⟨z3c T.p n (.agg (opV o pa pc)),T.w,T.b⟩ ⟨s.ops ++ [o],s.wait⟩ ((hs.filter fun n=>!decide (n ∈ o.preds)) ++ [n]) M w' ∧ Turn (SetO B T) (SetO B T) w w':=by
 have hn:IdOk n:=hne ▸ ⟨z0p o,z5d o⟩
 have hE:EntsO X (s.ops ++ [o]) (z3c T.p n (.agg (opV o pa pc))) w:=by
  rw [z1u (by rw [h.ops.keys];exact hnew),← hne]
  exact h.ops.push o pa pc hp hoff
 have HE:=Lib.hid hE
 have HN:=Lib.hid hn
 have HO:=Lib.hid ho
 have HPI:=Lib.hid hP
 have HOFF:=Lib.hid hoff
 have HSO0:=Lib.hid (fun b (hb:SetO B T b)=>SetO.x h hb)
 have HKN:=Lib.hid (show n ∉ (z41 (hs.filter fun n=>!decide (n ∈ o.preds))).map (·.1) from fun e=>by
  rw [z41,List.map_map] at e
  obtain ⟨y,hy,e⟩:=List.mem_map.1 e
  obtain rfl:y = n:=e
  exact hnh (List.mem_filter.1 hy).1)
 have a1:Below w.heap.size w (w.alloc (.cells (z07 .u8 n).toArray 25)):=(Below.refl _ _).alloc (Nat.le_refl _) _
 have x1:Blk w.heap.size 25 .u8 n (w.alloc (.cells (z07 .u8 n).toArray 25)):=heap_alloc_new w _
 have s1:(w.alloc (.cells (z07 .u8 n).toArray 25)).heap.size = w.heap.size + 1:=World.size_alloc _ _
 have HSN:=Lib.hid (show (Tryz.prog.info? 25).map (·.size) = some n.length by rw [hn.1];exact Tryz.sizeI)
 have HSO:=Lib.hid (show (Tryz.prog.info? 38).map (·.size) = some (opV o pa pc).size by rw [z0b ho];exact Tryz.sizeO)
 obtain ⟨m,hm⟩:∃ m,o.preds.length = m:=⟨_,rfl⟩
 have HM:=Shut.mk hm
 rw [hm] at hq
 go_enter Tryz.func78,Tryz.ntmps78
 go_upto_region 1 with (fail)
 obtain ⟨w1,hw1⟩:∃ x,x = w.alloc (.cells (z07 .u8 n).toArray 25):=⟨_,rfl⟩
 rw [← hw1] at a1 x1 s1 ⊢
 have a2:Below w1.heap.size w1 (w1.alloc (.cells (opV o pa pc) 38)):=(Below.refl _ _).alloc (Nat.le_refl _) _
 have x2:Cells w1.heap.size 38 (opV o pa pc) (w1.alloc (.cells (opV o pa pc) 38)):=heap_alloc_new w1 _
 obtain ⟨w2,hw2⟩:∃ x,x = w1.alloc (.cells (opV o pa pc) 38):=⟨_,rfl⟩
 rw [← hw2] at a2 x2 ⊢
 have hB:=a1.trans (a2.mono a1.size)
 have x12:=x1.below a2
 obtain ⟨g4,hg4⟩:∃ g,w.heap.size = g:=⟨_,rfl⟩
 rw [s1,hg4] at x2
 obtain ⟨g5,hg5⟩:∃ g,g4 + 1 = g:=⟨_,rfl⟩
 rw [hg4] at x12 ⊢
 rw [hg5] at x2 ⊢
 have HB:=Lib.hid hB
 have H4:=Lib.hid x12
 have H5:=Lib.hid x2
 have HS:=Lib.hid (h.below hB)
 have HPA:=Lib.hid (hp.below hB)
 have HNO4:=Lib.hid (show ¬ SetO B T g4 from fun e=>by have:=(HSO0.out _ e).2;omega)
 have HNO5:=Lib.hid (show ¬ SetO B T g5 from fun e=>by have:=(HSO0.out _ e).2;omega)
 have HG4:=Lib.hid hg4
 have HE2:=Lib.hid (HE.out.below hB)
 clear a1 a2 x1 x2 s1 hw1 hw2 hB x12 hg4 hg5 h ho hP hp hm hE hn hoff hnew hnh HE
 have HCE:=Lib.hid (fun w' (hb:Below w2.heap.size w2 w')=>(HS.out.below hb).cell.1)
 have HI4:=Lib.hid (fun w' (hb:Below w2.heap.size w2 w')=>H4.out.below hb)
 have HI5:=Lib.hid (fun w' (hb:Below w2.heap.size w2 w')=>H5.out.below hb)
 refine z0c (fun w'=>Below w2.heap.size w2 w') 6 (by kernel_rfl) (by kernel_rfl) (Below.refl _ _).drew ?_
 simp only [zC,zD,zE,zF]
 repeat (first
  | (go_big_quiet_want;refine z03 76 _ rfl ⟨B.gs,0,none⟩ _ rfl HCE.out Tryz.isAgg76 ?_;go_big_quiet_on;simp only [Act.put,zS,zA,zB])
  | (go_big_quiet_want;refine z0x 25 _ rfl g4 .u8 n 25 _ rfl HI4.out Tryz.underlying25 rfl HSN.out ?_;go_big_quiet_on;simp only [Act.put,zS,zA,zB])
  | (go_big_quiet_want;refine z0k 38 _ rfl g5 _ 38 _ rfl HI5.out Tryz.underlying38 rfl HSO.out ?_;go_big_quiet_on;simp only [Act.put,zS,zA,zB])
  | go_big_quiet_step ((intro hs';rfl)))
 refine wpQuiet_nil ?_
 intro w21 hs21
 have HS21:=Lib.hid (HS.out.below hs21)
 have HB21:=Lib.hid (HB.out.trans (hs21.mono HB.out.size))
 have HE21:=Lib.hid (HE2.out.below hs21)
 have HPM:=Lib.hid HS21.out.pm
 have H421:=Lib.hid (H4.out.below hs21)
 have H521:=Lib.hid (H5.out.below hs21)
 have HPA21:=Lib.hid (HPA.out.below hs21)
 clear hs21 HCE HI4 HI5 HS HE2 H4 H5 HPA
 go_wp2_with (refine z2x rfl _ _ _ 76 25 38 rfl Tryz.idKey Tryz.underlying76 B.p T.p HPM.out n HN.out _ rfl rfl rfl ?_)
 intro w3 hm3 ho3
 obtain ⟨hs3,ht3⟩:=HS21.out.putP ho3.out hm3.out HE21.out
 have HS3:=Lib.hid hs3
 have HT3:=Lib.hid ((Turn.of HB21.out).trans ht3)
 have HMX:=Lib.hid (fun b (hb:SetO B T b)=>(HSO0.out b hb).1)
 have H43:=Lib.hid (H421.out.only ho3.out (fun e=>HNO4.out (.inr (.inl e))))
 have H53:=Lib.hid (H521.out.only ho3.out (fun e=>HNO5.out (.inr (.inl e))))
 have HPA3:=Lib.hid (HPA21.out.only ho3.out (HOFF.out.mono (fun b e=>HMX.out b (.inr (.inl e)))))
 clear hm3 ho3 hs3 ht3 H421 H521 HPA21 HPM HB21 HS21 HE21
 obtain ⟨_,_,_,c37⟩:=z0j HO.out H53.out
 rw [HM.out] at c37
 go_wp2_with fail
 clear c37
 go_loopw [17] (fun i wr=>∃ k:Nat,k ≤ m ∧ i = .int .i64 k ∧ SetAt X B ⟨z3c T.p n (.agg (opV o pa pc)),T.w,T.b⟩ ⟨s.ops ++ [o],s.wait⟩ (hs.filter fun n=>!decide (n ∈ o.preds.take k)) M wr ∧ Turn (SetO B T) (SetO B T) w3 wr) (fun i _=>m - (intOf i).toNat)
 case atStart =>
  refine ⟨0,Nat.zero_le _,rfl,?_,Turn.refl _ _⟩
  have he:(hs.filter fun n=>!decide (n ∈ o.preds.take 0)) = hs:=List.filter_eq_self.2 (fun x _=>by simp)
  rw [he]
  exact HS3.out
 case round =>
  obtain ⟨k,hk,rfl,hsk,htk⟩:=hrel
  have HSK:=Lib.hid hsk
  have HTK:=Lib.hid htk
  have HPW:=Lib.hid (HPA3.out.only htk.only (HOFF.out.mono HMX.out))
  have H4K:=Lib.hid (H43.out.only htk.only HNO4.out)
  have HWK:=Lib.hid htk.only.size
  clear hsk htk
  by_cases hlt:k < m
  ·obtain ⟨b,ob,rfl,hbl⟩:=HPW.out.some (by rw [HM.out];omega)
   have gx:=HPW.out.get (i:=k) (by rw [HM.out];omega)
   have i1:=Ids.getD HPI.out (i:=k) (by rw [HM.out];omega)
   have hfs:=zhl (hs:=hs) (P:=o.preds) (k:=k) (by rw [HM.out];exact hlt)
   obtain ⟨x,hx⟩:∃ x,o.preds.getD k [] = x:=⟨_,rfl⟩
   rw [hx] at gx i1 hfs
   have HXI:=Lib.hid (show IdOk x from i1)
   have HFS:=Shut.mk hfs
   have HG1:=Lib.hid gx
   have HS1:=Lib.hid (show (Tryz.prog.info? 25).map (·.size) = some x.length by rw [i1.1];exact Tryz.sizeI)
   have HL2:=Lib.hid (show (List.replicate 32 0).length = x.length by rw [i1.1];rfl)
   clear hx gx i1 hbl hfs
   go_wp2_with (first
    | (refine z0a rfl 25 _ rfl b (ob + k * 32) x _ rfl HG1.out Tryz.underlying25 rfl HS1.out ?_)
    | (refine z06 rfl 25 _ _ rfl rfl wr.heap.size .u8 (List.replicate 32 0) x 25 rfl rfl (heap_alloc_new wr _) HS1.out HL2.out ?_))
   intro w5 hc' hb'
   have HB5:=Lib.hid (show Below wr.heap.size wr w5 from But.toBelow ((Below.refl _ _).alloc (Nat.le_refl _) _) hb'.out (Nat.le_refl _) (by rw [World.size_alloc];exact Nat.le_succ _))
   have HS5:=Lib.hid (HSK.out.below HB5.out)
   have HT5:=Lib.hid (HTK.out.below HB5.out)
   obtain ⟨g7,hg7⟩:∃ g,wr.heap.size = g:=⟨_,rfl⟩
   have HC5:=Lib.hid (show Blk g7 25 .u8 x w5 from hg7 ▸ hc'.out)
   rw [hg7]
   clear hc' hb' hg7 HG1
   go_upto_region 5 with (fail)
   have HCE:=Lib.hid (fun w' (hb:Below w5.heap.size w5 w')=>(HS5.out.below hb).cell.2.2.1)
   have HI7:=Lib.hid (fun w' (hb:Below w5.heap.size w5 w')=>HC5.out.below hb)
   refine z0c (fun w'=>Below w5.heap.size w5 w') 5 (by kernel_rfl) (by kernel_rfl) (Below.refl _ _).drew ?_
   simp only [zC,zD,zE,zF]
   repeat (first
    | (go_big_quiet_want;refine z03 77 _ rfl ⟨B.gs,2,none⟩ _ rfl HCE.out Tryz.isAgg77 ?_;go_big_quiet_on;simp only [Act.put,zS,zA,zB])
    | (go_big_quiet_want;refine z0x 25 _ rfl g7 .u8 x 25 _ rfl HI7.out Tryz.underlying25 rfl HS1.out ?_;go_big_quiet_on;simp only [Act.put,zS,zA,zB])
    | go_big_quiet_step ((intro hs';rfl)))
   refine wpQuiet_nil ?_
   intro w6 hs6
   have HS6:=Lib.hid (HS5.out.below hs6)
   have HT6:=Lib.hid (HT5.out.below hs6)
   have HHM:=Lib.hid HS6.out.hm
   clear hs6 HCE HI7 HS5 HT5
   go_wp2_with (refine z4d rfl _ _ 77 25 92 rfl Tryz.idKey Tryz.underlying77 B.h _ HHM.out x HXI.out rfl rfl ?_)
   intro w7 hm7 ho7
   have hm7':=hm7.out
   rw [zm1,HFS.out] at hm7'
   obtain ⟨hs7,ht7⟩:=HS6.out.putH ho7.out hm7'
   have HS7:=Lib.hid hs7
   have HT7:=Lib.hid (HT6.out.trans ht7)
   clear hm7 hm7' ho7 hs7 ht7
   go_wp2_with fail
   exact ⟨⟨k + 1,by omega,by go_num,HS7.out,HT7.out⟩,by simp [intOf];omega⟩
  ·obtain rfl:k = m:=by omega
   have he:o.preds.take k = o.preds:=List.take_of_length_le (by rw [HM.out];exact Nat.le_refl _)
   have HS8a:=HSK.out
   rw [he] at HS8a
   have HS8:=Lib.hid HS8a
   clear HS8a he
   go_upto_region 7 with (fail)
   have HCE:=Lib.hid (fun w' (hb:Below wr.heap.size wr w')=>(HS8.out.below hb).cell.2.2.1)
   have HI4:=Lib.hid (fun w' (hb:Below wr.heap.size wr w')=>H4K.out.below hb)
   refine z0c (fun w'=>Below wr.heap.size wr w') 6 (by kernel_rfl) (by kernel_rfl) (Below.refl _ _).drew ?_
   simp only [zC,zD,zE,zF]
   repeat (first
    | (go_big_quiet_want;refine z03 77 _ rfl ⟨B.gs,2,none⟩ _ rfl HCE.out Tryz.isAgg77 ?_;go_big_quiet_on;simp only [Act.put,zS,zA,zB])
    | (go_big_quiet_want;refine z0x 25 _ rfl g4 .u8 n 25 _ rfl HI4.out Tryz.underlying25 rfl HSN.out ?_;go_big_quiet_on;simp only [Act.put,zS,zA,zB])
    | (go_big_quiet_want;refine zjl rfl ?_;go_big_quiet_on;simp only [Act.put,zS,zA,zB])
    | go_big_quiet_step ((intro hs';rfl)))
   refine wpQuiet_nil ?_
   intro w6 hs6
   have HS6:=Lib.hid (HS8.out.below hs6)
   have HT6:=Lib.hid (HTK.out.below hs6)
   have HHM:=Lib.hid HS6.out.hm
   clear hs6 HCE HI4 HS8 HTK
   go_wp2_with (refine z2x rfl _ _ _ 77 25 92 rfl Tryz.idKey Tryz.underlying77 B.h _ HHM.out n HN.out _ rfl rfl rfl ?_)
   intro w7 hm7 ho7
   have hm7':=hm7.out
   rw [z1u HKN.out,show z41 (hs.filter fun n=>!decide (n ∈ o.preds)) ++ [(n,Value.agg #[])] = z41 ((hs.filter fun n=>!decide (n ∈ o.preds)) ++ [n]) by rw [z41,z41,List.map_append];rfl] at hm7'
   obtain ⟨hs7,ht7⟩:=HS6.out.putH ho7.out hm7'
   have HS7:=Lib.hid hs7
   have HT7:=Lib.hid (HT3.out.trans (HT6.out.trans ht7))
   clear hm7 hm7' ho7 hs7 ht7
   go_wp2_with fail
   refine bodyPost_end (results_none rfl _ _ _) rfl ?_
   exact ⟨rfl,HS7.out,HT7.out⟩
def z4v (P:Program) (t:TypeId) (name:String):Option (List FieldStep × Option (FuncId × Bool)):=(P.info? t).bind fun i=>(i.methods.find? (·.name == name)).map fun m=>(m.path.toList,m.func)
section
variable {P:Program} {w:World} {t:TypeId} {name:String} {f:FuncId}
theorem zfv (k:Nat) (elem:TypeId) (hr:z4v P t name = some ([],some (f,true))) (ht:P.underlying t = some (.pointer elem)) (v:Value):(method (k + 1) t v name).run P w = .ok (f,v) w:=by
 unfold z4v at hr
 cases hi:P.info? t with
 | none=>rw [hi] at hr;cases hr
 | some i =>
   rw [hi] at hr
   simp only [Option.bind_some,Option.map_eq_some_iff,Prod.mk.injEq] at hr
   obtain ⟨m,h1,h2,h3⟩:=hr
   unfold method
   simp only [Sem.run_bind,run_typeInfo w hi,Result.andThen_ok,h1,h2,follow,Sem.run_pure,h3,receiverAt,run_underlying ht,Place.get]
theorem zfo (k:Nat) (elem:TypeId) (hr:z4v P t name = some ([],some (f,false))) (ht:P.underlying t = some (.pointer elem)) (p:Addr) (v:Value) (hl:(loadVar elem p).run P w = .ok v w):(method (k + 1) t (.pointer (some p)) name).run P w = .ok (f,v) w:=by
 unfold z4v at hr
 cases hi:P.info? t with
 | none=>rw [hi] at hr;cases hr
 | some i =>
   rw [hi] at hr
   simp only [Option.bind_some,Option.map_eq_some_iff,Prod.mk.injEq] at hr
   obtain ⟨m,h1,h2,h3⟩:=hr
   have hp:m.path.isEmpty = true:=by
    cases hm:m.path with
    | mk l=>rw [hm] at h2;simp only at h2;subst h2;rfl
   unfold method
   simp only [Sem.run_bind,run_typeInfo w hi,Result.andThen_ok,h1,h2,follow,Sem.run_pure,h3,receiverAt,run_underlying ht,Place.get,hp,if_true]
   have hs : ∀ n : String, (Builtin.ssaWrapNilChk_ #[t] t #[.pointer (some p), strVal "", strVal n]).run P w = .ok (.pointer (some p)) w := fun n => rfl
   simp only [hs,Result.andThen_ok,asAddr,Sem.run_pure,hl]
end
section
variable {P:Program} {o:Oper} {a:Act} {w:World} {K:Act → World → Prop} {Q:Exit → Act → World → Prop}
theorem zei {f : FuncId} {fn : Func} (hf : P.funcs[f]? = some fn) (hname : (fn.name == "runtime.NumGoroutine") = false) (hb : fn.body.isNone = false)
 {x:Operand} {name:String} {args:Array Operand} {ts:Array TypeId} (ho:o.op = .call { callee:=.invoke x name,args:=args,argTypes:=ts }) (t:TypeId) (v r:Value) (hx:a.eval x = .iface t v) (hm:∀ k,(method (k + 1) t v name).run P w = .ok (f,r) w) (vs:List Value) (hv:args.toList.map a.eval = vs) {C:Ending → World → Prop}
 (hc:Calls P f (#[r] ++ vs.toArray) w C) (h:∀ e w',C e w' → ∃ v,e = .returned v ∧ K (a.put o.dst v) w'):OpWp P o a w K Q:=by
 have hr:(execOp a.eval o).run P w = .ok (.enter f (#[r] ++ vs.toArray)) w:=by
  have h1 : ¬ fn.name = "runtime.NumGoroutine" := by simpa using hname
  have h2:¬ fn.body = none:=by intro e;rw [e] at hb;cases hb
  have ha:args.map a.eval = vs.toArray:=by rw [← hv,← Array.toList_map,Array.toArray_toList]
  obtain ⟨dst,op,ty,pos,after,guard⟩:=o
  simp only at ho
  subst ho
  have e:execOp a.eval { dst,op:=.call { callee:=.invoke x name,args:=args,argTypes:=ts },type:=ty,pos,after,guard } = invoke (.fn (.method name) #[]) (#[a.eval x] ++ args.map a.eval):=rfl
  rw [e,hx,ha]
  have e2:invoke (.fn (.method name) #[]) (#[Value.iface t v] ++ vs.toArray) = callMethod (.iface t v) name ((#[Value.iface t v] ++ vs.toArray).extract 1 (#[Value.iface t v] ++ vs.toArray).size):=by
   unfold invoke
   simp [go_sem]
  have e3:(#[Value.iface t v] ++ vs.toArray).extract 1 (#[Value.iface t v] ++ vs.toArray).size = vs.toArray:=by simp
  obtain ⟨d,hd⟩:∃ d,P.types.size + Made.depth = d + 1:=⟨P.types.size + Made.depth - 1,by unfold Made.depth;omega⟩
  rw [e2,e3]
  unfold callMethod
  simp only [Sem.run_bind,run_program,Result.andThen_ok,hd,hm d]
  simp [callFunc,Sem.run_bind,hf,h1,h2,go_sem]
 refine ⟨?_⟩
 unfold Oper.wp
 rw [hr,Oper.upon_enter]
 refine hc.mono fun e w' he=>?_
 obtain ⟨v,rfl,hk⟩:=h e w' he
 exact hk
theorem z1d {ops : Array Oper} {rest : List Oper} (hgd : o.guard = none) {f : FuncId} {fn : Func} (hf : P.funcs[f]? = some fn) (hname : (fn.name == "runtime.NumGoroutine") = false) (hb : fn.body.isNone = false)
 (x:Operand) (name:String) (args:Array Operand) (ts:Array TypeId) (ho:o.op = .call { callee:=.invoke x name,args:=args,argTypes:=ts }) (t:TypeId) (v r:Value) (hx:a.eval x = .iface t v) (hm:∀ k,(method (k + 1) t v name).run P w = .ok (f,r) w) (vs:List Value) (hv:args.toList.map a.eval = vs) {C:Ending → World → Prop}
 (hc:Calls P f (#[r] ++ vs.toArray) w C) (h:∀ e w',C e w' → ∃ v,e = .returned v ∧ wpList P ops Q rest (a.put o.dst v) w'):wpList P ops Q (o :: rest) a w :=
 wpList_plain hgd fun _ hK=>(zei hf hname hb ho t v r hx hm vs hv hc fun e w' he=>by
  obtain ⟨v,hv,hk⟩:=h e w' he
  exact ⟨v,hv,hK _ _ hk⟩).out
theorem z5e {ops : Array Oper} {rest : List Oper} (hw : Region.wanted o (yielded ops a.tmps) = true) {f : FuncId} {fn : Func} (hf : P.funcs[f]? = some fn) (hname : (fn.name == "runtime.NumGoroutine") = false) (hb : fn.body.isNone = false)
 (x:Operand) (name:String) (args:Array Operand) (ts:Array TypeId) (ho:o.op = .call { callee:=.invoke x name,args:=args,argTypes:=ts }) (t:TypeId) (v r:Value) (hx:a.eval x = .iface t v) (hm:∀ k,(method (k + 1) t v name).run P w = .ok (f,r) w) (vs:List Value) (hv:args.toList.map a.eval = vs) {C:Ending → World → Prop}
 (hc:Calls P f (#[r] ++ vs.toArray) w C) (h:∀ e w',C e w' → ∃ v,e = .returned v ∧ wpList P ops Q rest (a.put o.dst v) w'):wpList P ops Q (o :: rest) a w :=
 BigFrame.wpList_want hw fun _ hK=>(zei hf hname hb ho t v r hx hm vs hv hc fun e w' he=>by
  obtain ⟨v,hv,hk⟩:=h e w' he
  exact ⟨v,hv,hK _ _ hk⟩).out
end
theorem zme : z4v Tryz.prog 109 "Len" = some ([], some (80, false)) := by kernel_rfl
theorem z8v : z4v Tryz.prog 109 "Less" = some ([], some (188, false)) := by kernel_rfl
theorem z8e : z4v Tryz.prog 109 "Swap" = some ([], some (191, false)) := by kernel_rfl
theorem row_push : z4v Tryz.prog 109 "Push" = some ([], some (190, true)) := by kernel_rfl
theorem row_pop : z4v Tryz.prog 109 "Pop" = some ([], some (189, true)) := by kernel_rfl
end Go.Proofs.YtnbldbbbibpobaaGreatDoor
namespace Go.Proofs.YtnbldbbbibpobaaGreatDoor
def qAt (Q:List (List Nat)) (k:Nat):List Nat:=Q.getD k []
def z4g (Q:List (List Nat)) (i j:Nat):List (List Nat):=(Q.set i (qAt Q j)).set j (qAt Q i)
def Less (a b:List Nat):Prop:=z1t a b = -1
theorem z8b {Q:List (List Nat)} {k:Nat} (h:k < Q.length):qAt Q k = Q[k]:=by rw [qAt,List.getD_eq_getElem?_getD,List.getElem?_eq_getElem h];rfl
theorem z2f {Q:List (List Nat)} {i j k:Nat} (hi:i < Q.length) (hj:j < Q.length):qAt (z4g Q i j) k = if k = j then qAt Q i else if k = i then qAt Q j else qAt Q k:=by
 simp only [qAt,z4g,List.getD_eq_getElem?_getD]
 by_cases h1:k = j
 ·subst h1
  rw [if_pos rfl,List.getElem?_set_self (by rw [List.length_set];exact hj)]
  rfl
 ·rw [if_neg h1,List.getElem?_set_ne (Ne.symm h1)]
  by_cases h2:k = i
  ·subst h2
   rw [if_pos rfl,List.getElem?_set_self hi]
   rfl
  ·rw [if_neg h2,List.getElem?_set_ne (Ne.symm h2)]
theorem z4p {Q:List (List Nat)} {i j:Nat} (hi:i < Q.length) (hj:j < Q.length):(z4g Q i j).Perm Q:=by
 have h:=(Array.swap_perm (xs:=Q.toArray) (i:=i) (j:=j) (by simpa using hi) (by simpa using hj)).toList
 rw [z4g,z8b hi,z8b hj]
 simpa using h
theorem z81 {Q:List (List Nat)} {k:Nat} (h:k < Q.length):qAt Q k ∈ Q:=by rw [z8b h];exact List.getElem_mem _
def Len32 (Q:List (List Nat)):Prop:=∀ x ∈ Q,x.length = 32
theorem z5v {a b:List Nat} (h:Less a b):¬ Less b a:=fun k=>z58 h k
theorem zcn {a b c:List Nat} (h:Less a b) (k:Less b c):Less a c:=z2q h k
theorem z4w {a b c:List Nat} (hb:b.length = 32) (hc:c.length = 32) (h:¬ Less a b) (k:¬ Less b c):¬ Less a c:=fun hl=>by
 by_cases e:b = c
 ·subst e;exact h hl
 ·exact h (zcn hl ((z3m (by rw [hc,hb]) (Ne.symm e)).resolve_right k))
def HeapN (Q:List (List Nat)) (n:Nat):Prop:=∀ k,0 < k → k < n → ¬ Less (qAt Q k) (qAt Q ((k - 1) / 2))
structure UpOk (Q:List (List Nat)) (n j:Nat):Prop where
 one:∀ k,0 < k → k < n → k ≠ j → ¬ Less (qAt Q k) (qAt Q ((k - 1) / 2))
 two:∀ c,0 < c → c < n → (c - 1) / 2 = j → 0 < j → ¬ Less (qAt Q c) (qAt Q ((j - 1) / 2))
structure DownOk (Q:List (List Nat)) (n i:Nat):Prop where
 one:∀ k,0 < k → k < n → (k - 1) / 2 ≠ i → ¬ Less (qAt Q k) (qAt Q ((k - 1) / 2))
 two:∀ c,0 < c → c < n → (c - 1) / 2 = i → 0 < i → ¬ Less (qAt Q c) (qAt Q ((i - 1) / 2))
section
variable {Q:List (List Nat)} {n i j:Nat}
theorem UpOk.stop (h:UpOk Q n j) (hs:j = 0 ∨ ¬ Less (qAt Q j) (qAt Q ((j - 1) / 2))):HeapN Q n:=fun k h0 hk=>by
 by_cases e:k = j
 ·subst e
  rcases hs with hs | hs
  ·omega
  ·exact hs
 ·exact h.one k h0 hk e
theorem UpOk.swap (hl:Len32 Q) (hn:n ≤ Q.length) (h:UpOk Q n j) (hj0:0 < j) (hj:j < n) (hs:Less (qAt Q j) (qAt Q ((j - 1) / 2))):UpOk (z4g Q ((j - 1) / 2) j) n ((j - 1) / 2):=by
 obtain ⟨i,hi⟩:∃ i,(j - 1) / 2 = i:=⟨_,rfl⟩
 rw [hi] at hs ⊢
 have hij:i < j:=by omega
 have hiQ:i < Q.length:=by omega
 have hjQ:j < Q.length:=by omega
 have L:∀ k,k < n → (qAt Q k).length = 32:=fun k hk=>hl _ (z81 (by omega))
 refine ⟨fun k h0 hk hne=>?_,fun c h0 hc hci hi0=>?_⟩
 ·rw [z2f hiQ hjQ,z2f hiQ hjQ]
  by_cases hkj:k = j
  ·subst hkj
   rw [if_pos rfl,hi,if_neg (by omega),if_pos rfl]
   exact z5v hs
  ·rw [if_neg hkj,if_neg hne]
   by_cases hpj:(k - 1) / 2 = j
   ·rw [if_pos hpj]
    have:=h.two k h0 hk hpj hj0
    rwa [hi] at this
   ·rw [if_neg hpj]
    by_cases hpi:(k - 1) / 2 = i
    ·rw [if_pos hpi]
     have:=h.one k h0 hk hkj
     rw [hpi] at this
     exact fun e=>this (zcn e hs)
    ·rw [if_neg hpi]
     exact h.one k h0 hk hkj
 ·have hii:i ≠ j:=by omega
  have h1:=h.one i hi0 (by omega) hii
  rw [z2f hiQ hjQ,z2f hiQ hjQ,if_neg (show ¬ (i - 1) / 2 = j by omega),if_neg (show ¬ (i - 1) / 2 = i by omega)]
  by_cases hcj:c = j
  ·subst hcj
   rw [if_pos rfl]
   exact h1
  ·rw [if_neg hcj,if_neg (show ¬ c = i by omega)]
   have h2:=h.one c h0 hc hcj
   rw [hci] at h2
   exact z4w (L i (by omega)) (L _ (by omega)) h2 h1
theorem DownOk.stop (h:DownOk Q n i) (hs:∀ c,0 < c → c < n → (c - 1) / 2 = i → ¬ Less (qAt Q c) (qAt Q i)):HeapN Q n:=fun k h0 hk=>by
 by_cases e:(k - 1) / 2 = i
 ·rw [e];exact hs k h0 hk e
 ·exact h.one k h0 hk e
theorem DownOk.swap (hn:n ≤ Q.length) (h:DownOk Q n i) (hj0:0 < j) (hj:j < n) (hji:(j - 1) / 2 = i) (hmin:∀ c,0 < c → c < n → (c - 1) / 2 = i → ¬ Less (qAt Q c) (qAt Q j)) (hs:Less (qAt Q j) (qAt Q i)):DownOk (z4g Q i j) n j:=by
 have hij:i < j:=by omega
 have hiQ:i < Q.length:=by omega
 have hjQ:j < Q.length:=by omega
 refine ⟨fun k h0 hk hne=>?_,fun c h0 hc hcj hj0=>?_⟩
 ·rw [z2f hiQ hjQ,z2f hiQ hjQ,if_neg hne]
  by_cases hkj:k = j
  ·subst hkj
   rw [if_pos rfl,if_pos hji]
   exact z5v hs
  ·rw [if_neg hkj]
   by_cases hki:k = i
   ·subst hki
    rw [if_pos rfl,if_neg (by omega)]
    exact h.two j hj0 hj hji h0
   ·rw [if_neg hki]
    by_cases hpi:(k - 1) / 2 = i
    ·rw [if_pos hpi]
     exact hmin k h0 hk hpi
    ·rw [if_neg hpi]
     exact h.one k h0 hk hpi
 ·rw [z2f hiQ hjQ,z2f hiQ hjQ,if_neg (show ¬ c = j by omega),if_neg (show ¬ c = i by omega),hji,if_neg (show ¬ i = j by omega),if_pos rfl]
  have:=h.one c h0 hc (by omega)
  rwa [hcj] at this
theorem HeapN.least (hl:Len32 Q) (hn:n ≤ Q.length) (h:HeapN Q n):∀ (k:Nat),k < n → ¬ Less (qAt Q k) (qAt Q 0)
 | 0,_=>fun e=>z58 e e
 | k + 1, hk => by
   have h1:=h (k + 1) (by omega) hk
   have h2:=HeapN.least hl hn h ((k + 1 - 1) / 2) (by omega)
   have L:∀ k,k < n → (qAt Q k).length = 32:=fun k hk=>hl _ (z81 (by omega))
   exact z4w (L _ (by omega)) (L _ (by omega)) h1 h2
termination_by k=>k
decreasing_by omega
theorem HeapN.first (hl:Len32 Q) (h:HeapN Q Q.length) (h0:0 < Q.length):∀ x ∈ Q,x = qAt Q 0 ∨ z1t (qAt Q 0) x = -1:=fun x hx=>by
 obtain ⟨k,hk,rfl⟩:=List.getElem_of_mem hx
 have:=h.least hl (Nat.le_refl _) k hk
 rw [z8b hk] at this
 by_cases e:Q[k] = qAt Q 0
 ·exact .inl e
 ·exact .inr ((z3m (by rw [hl _ hx,hl _ (z81 h0)]) e).resolve_left this)
theorem HeapN.nil:HeapN [] 0:=fun k _ hk=>by omega
theorem HeapN.push (h:HeapN Q Q.length) (x:List Nat):UpOk (Q ++ [x]) (Q ++ [x]).length Q.length:=by
 have hk:∀ k,k < Q.length → qAt (Q ++ [x]) k = qAt Q k:=fun k hk=>by
  rw [qAt,qAt,List.getD_eq_getElem?_getD,List.getD_eq_getElem?_getD,List.getElem?_append_left hk]
 refine ⟨fun k h0 hkn hne=>?_,fun c h0 hc hcj _=>?_⟩
 ·have:k < Q.length:=by simp at hkn;omega
  rw [hk k this,hk _ (by omega)]
  exact h k h0 this
 ·simp at hc;omega
theorem HeapN.drop (h:HeapN Q Q.length) (h0:0 < Q.length):DownOk (z4g Q 0 (Q.length - 1)) (Q.length - 1) 0:=by
 refine ⟨fun k hk0 hk hne=>?_,fun c _ _ _ e=>by omega⟩
 rw [z2f h0 (by omega),z2f h0 (by omega),if_neg (by omega),if_neg (by omega),if_neg (by omega),if_neg (by omega)]
 exact h k hk0 (by omega)
end
open Go.RowKit Go.BigFrame
structure QAt (q:Nat) (v:Value) (Q:List (List Nat)) (w:World):Prop where
 cell:Cells q 110 #[v] w
 row:OwnI 0 25 v Q w
 ids:Ids Q
def QO (q:Nat) (v:Value):Nat → Prop:=fun b=>b = q ∨ v.ownBlock = some b
section
variable {q:Nat} {v u:Value} {Q R:List (List Nat)} {w w':World} {O:Nat → Prop}
theorem QAt.ne (h:QAt q v Q w):v.ownBlock ≠ some q:=z11 h.row h.cell (by decide)
theorem QAt.below (h:QAt q v Q w) (k:Below w.heap.size w w'):QAt q v Q w':=⟨h.cell.below k,h.row.below k,h.ids⟩
theorem QAt.only (h:QAt q v Q w) (k:Only O w w') (hO:∀ b,QO q v b → ¬ O b):QAt q v Q w':=⟨h.cell.only k (hO _ (.inl rfl)),h.row.only k (fun _ hb=>hO _ (.inr hb)),h.ids⟩
theorem QAt.lt (h:QAt q v Q w) {b:Nat} (hb:QO q v b):b < w.heap.size:=by
 rcases hb with rfl | hb
 ·exact h.cell.lt
 ·exact (World.ownsRow.lt h.row b hb).2
theorem QAt.form (h:QAt q v Q w):∃ ao c,v = .slice ao Q.length c:=h.row.form
theorem QAt.at0 (h:QAt q v Q w):w.cell? ⟨q,0,none⟩ = some v:=by rw [h.cell.at 0];rfl
theorem QAt.len32 (h:QAt q v Q w):Len32 Q:=fun x hx=>(h.ids x hx).1
theorem zji (h:w.cell? ⟨q,0,none⟩ = some v):(loadVar 110 ⟨q,0,none⟩).run Tryz.prog w = .ok v w:=z4c w _ _ _ h Tryz.isAgg110
theorem OwnI.cutLast {B g n c:Nat} {e:TypeId} (h:OwnI B e (.slice (some ⟨g,0,none⟩) n c) Q w) (hQ:Ids Q) (hn:n = Q.length):OwnI B e (.slice (some ⟨g,0,none⟩) (n - 1) c) Q.dropLast w:=by
 subst hn
 rcases h.2 with ⟨h1,_⟩ | ⟨g',cap,cur,h1,hB,hh,h2,h3,h4,h5⟩
 ·cases h1
 ·cases h1
  have hl:Q.dropLast.length = Q.length - 1:=List.length_dropLast
  have hI:Ids Q.dropLast:=fun x hx=>hQ x (List.dropLast_subset _ hx)
  refine ⟨by rw [z1a hI],.inr ⟨g,c,cur,by rw [hl],hB,hh,by omega,h3,h4,?_⟩⟩
  have hp:z1o Q.dropLast = (z1o Q).take ((Q.length - 1) * 32):=by
   have hlt:(Q.take (Q.length - 1)).length = Q.length - 1:=by rw [List.length_take];omega
   have hIt:Ids (Q.take (Q.length - 1)):=fun x hx=>hQ x (List.take_subset _ _ hx)
   have e:z1o Q = z1o (Q.take (Q.length - 1)) ++ z1o (Q.drop (Q.length - 1)):=by rw [← z2h,List.take_append_drop]
   rw [List.dropLast_eq_take,e]
   obtain ⟨A,hA⟩:∃ A,Q.take (Q.length - 1) = A:=⟨_,rfl⟩
   rw [hA] at hlt hIt ⊢
   have hfl:=z1a hIt
   rw [hlt] at hfl
   rw [List.take_append_of_le_length (by rw [hfl];exact Nat.le_refl _),List.take_of_length_le (by rw [hfl];exact Nat.le_refl _)]
  rw [hp,← h5,List.take_take,hl]
  congr 1
  omega
end
theorem zi4 (ao:Option Addr) (n c:Nat) (w:World):Calls Tryz.prog 80 #[.slice ao n c] w fun e w'=>e = .returned (.int .i64 n) ∧ w' = w:=by
 go_enter Tryz.func80,Tryz.ntmps80
 go_wp2_with fail
 go_ret
 exact ⟨rfl,rfl⟩
theorem qu_less (g n c i j:Nat) (Q:List (List Nat)) (w:World) (h:OwnI 0 25 (.slice (some ⟨g,0,none⟩) n c) Q w) (hQ:Ids Q) (hn:Q.length = n) (hm:n ≤ 1000000) (hi:i < n) (hj:j < n) :
 Calls Tryz.prog 188 #[.slice (some ⟨g,0,none⟩) n c,.int .i64 i,.int .i64 j] w fun e w'=>e = .returned (.bool (decide (z1t (qAt Q i) (qAt Q j) < 0))) ∧ Below w.heap.size w w':=by
 have hat:=h.at hQ
 have g1:=hat.get (i:=i) (by omega)
 have g2:=hat.get (i:=j) (by omega)
 have i1:=Ids.getD hQ (i:=i) (by omega)
 have i2:=Ids.getD hQ (i:=j) (by omega)
 obtain ⟨b,ob,e,hbl⟩:=hat.some (by omega)
 cases e
 rw [Nat.zero_add] at g1 g2
 have HX:=Lib.hid (fun w' (k:Below w.heap.size w w')=>z08 g1 k hbl)
 have HY:=Lib.hid (fun w' (k:Below w.heap.size w w')=>z08 g2 k hbl)
 obtain ⟨x,hx⟩:∃ x,Q.getD i [] = x:=⟨_,rfl⟩
 obtain ⟨y,hy⟩:∃ x,Q.getD j [] = x:=⟨_,rfl⟩
 rw [hx] at HX i1
 rw [hy] at HY i2
 rw [show qAt Q i = x from hx,show qAt Q j = y from hy]
 have HI:=Lib.hid i1
 have HJ:=Lib.hid i2
 have HS1:=Lib.hid (show (Tryz.prog.info? 25).map (·.size) = some x.length by rw [i1.1];exact Tryz.sizeI)
 have HS2:=Lib.hid (show (Tryz.prog.info? 25).map (·.size) = some y.length by rw [i2.1];exact Tryz.sizeI)
 have hin:(i:Int) < (n:Int):=by omega
 have hjn:(j:Int) < (n:Int):=by omega
 obtain ⟨r,hr⟩:∃ r,z1t x y = r:=⟨_,rfl⟩
 have hrc:=z42 x y
 have HC:=Lib.hid (fun w1=>zax x y HI.out HJ.out w1)
 rw [hr] at hrc HC ⊢
 clear h hQ hat g1 g2 i1 i2 hx hy hr hbl
 go_enter Tryz.func188,Tryz.ntmps188
 go_upto_region 1 with (fail)
 refine z0c (fun w'=>Below w.heap.size w w') 10 (by kernel_rfl) (by kernel_rfl) (Below.refl _ _).drew ?_
 simp only [zC,zD,zE,zF]
 repeat (first
  | (go_big_quiet_want;refine z0i 25 _ rfl g (i * 32) x _ rfl HX.out Tryz.underlying25 rfl HS1.out ?_;go_big_quiet_on;simp only [Act.put,zS,zA,zB])
  | (go_big_quiet_want;refine z0i 25 _ rfl g (j * 32) y _ rfl HY.out Tryz.underlying25 rfl HS2.out ?_;go_big_quiet_on;simp only [Act.put,zS,zA,zB])
  | go_big_quiet_step ((intro hs';first
   | (go_at_call 85;exact (HC.out _).mono fun e w' h=>⟨h.1,hs'.trans (h.2.mono hs'.size)⟩)
   | rfl)))
 refine wpQuiet_nil ?_
 intro w2 hs2
 have HB2:=Lib.hid hs2
 clear hs2
 go_wp2_with fail
 go_ret
 exact ⟨by congr 2,HB2.out⟩
end Go.Proofs.YtnbldbbbibpobaaGreatDoor
