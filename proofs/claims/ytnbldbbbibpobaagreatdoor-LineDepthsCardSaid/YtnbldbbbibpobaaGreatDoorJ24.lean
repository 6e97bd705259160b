/-
  Joined: What the laws of layer 11 ask first: alive. Written by line/gen/gen_alive.py.
-/
import Derived.Test.YtnbldbbbibpobaaGreatDoorJ02
import Derived.Test.YtnbldbbbibpobaaGreatDoorJ20
import Derived.Test.YtnbldbbbibpobaaGreatDoorJ22
import Derived.Test.YtnbldbbbibpobaaGreatDoorJ23
set_option maxRecDepth 100000
set_option maxHeartbeats 8000000
namespace Go.Proofs.YtnbldbbbibpobaaGreatDoor
open Go.RowKit Go.BigFrame
def IntR (v:Value) (w:World):Prop:=∃ g,v = .slice (some ⟨g,0,none⟩) 1 1 ∧ w.cell? ⟨g,0,none⟩ = some (.int .i64 1)
theorem IntR.below {v:Value} {w w':World} (h:IntR v w) (k:Below w.heap.size w w'):IntR v w':=by
 obtain ⟨g,h1,h2⟩:=h
 exact ⟨g,h1,(k.cell (p:=⟨g,0,none⟩) (z3r h2)).trans h2⟩
theorem zdn (z:Int) (w:World):(Instr.buildSlice 23 1 #[(0,.int .i64 z)]).run Tryz.prog w = .ok (.slice (some ⟨w.heap.size,0,none⟩) 1 1) (w.alloc (.cells #[.int .i64 z] 3)):=by
 go_simp
theorem zl8 (z:Int) (w:World):(binOp .eql 3 (.int .i64 z) (.int .i64 z)).run Tryz.prog w = .ok (.bool true) w:=by
 go_simp
theorem zlk (g n c i:Nat) (hi:i < n) (w:World):(Instr.indexAt 29 (.slice (some ⟨g,0,none⟩) n c) (.int .i64 (i:Int))).run Tryz.prog w = .ok (.pointer (some ⟨g,i * 38,none⟩)) w:=by
 have hi':(i:Int) < (n:Int):=by omega
 go_simp
section
variable {o:Oper} {a:Act} {w:World} {K:Act → World → Prop} {Q:Exit → Act → World → Prop}
theorem zh6 (x:Operand) (ho:o.op = .call { callee:=.builtin .len,args:=#[x],argTypes:=#[67] }) (ao:Option Addr) (n c:Nat) (hx:a.eval x = .slice ao n c)
 (h:K (a.put o.dst (.int .i64 (n:Int))) w):OpWp Tryz.prog o a w K Q:=by
 have hl:∀ ty,(Builtin.len_ #[67] ty #[.slice ao n c]).run Tryz.prog w = .ok (.int .i64 (n:Int)) w:=fun ty=>by
  go_simp
 refine ⟨?_⟩
 unfold Oper.wp execOp
 simp only [ho,resolve,invoke,builtin,Sem.run_bind,Sem.run_pure,Result.andThen_ok,List.map_toArray,List.map_cons,List.map_nil,hx,hl]
 exact h
end
theorem zdd (w:World) (hk:KAt w):Calls Tryz.prog 28 #[] w fun e w'=>e = .returned (.bool true) ∧ Below w.heap.size w w':=by
 obtain ⟨X,hX⟩:∃ X:Nat → Prop,X = fun b=>w.heap.size ≤ b:=⟨_,rfl⟩
 have HX:=Lib.hid (show ∀ b,X b ↔ w.heap.size ≤ b from fun b=>by rw [hX])
 have HK:=Lib.hid hk
 have HZO:=Lib.hid (show (Tryz.prog.info? 38).bind (·.zero) = some (.agg (opL z05 none 0).toArray) by kernel_rfl)
 have HSV:=Lib.hid (fun (o:OpN) (h:o.d.ref.length = 32) (pa:Option Addr) (pc:Nat)=>show (Tryz.prog.info? 38).map (·.size) = some (opV o pa pc).size by rw [z0b h];exact Tryz.sizeO)
 have HSZ:=Lib.hid (fun (o:OpN) (h:o.d.ref.length = 32) (pa:Option Addr) (pc:Nat)=>show (opL z05 none 0).toArray.size = (opV o pa pc).size by rw [z0b h];rfl)
 have HAR:=Lib.hid (show aL.d.ref.length = 32 from aL_fit.d.ref.1)
 have HBR:=Lib.hid (show bL.d.ref.length = 32 from bL_fit.d.ref.1)
 clear hk hX
 go_enter Tryz.func28,Tryz.ntmps28
 go_wp2_with fail
 refine (zlz X w (fun b h=>(HX.out b).2 h)).mono ?_
 rintro e w1 ⟨B,rfl,hs1,hb1⟩
 have HS1:=Lib.hid hs1
 have HB1:=Lib.hid hb1
 clear hs1 hb1
 go_wp2_with (first
  | (refine z1c rfl 27 _ rfl [(0,.int .i64 1),(1,.string ⟨#[107]⟩)] _ (by rw [List.map_toArray];rfl) built_lD ?_)
  | (refine z1c rfl 38 _ rfl [(0,.agg (z0t lD)),(2,.int .i64 1)] _ (by rw [List.map_toArray];rfl) built_aL ?_)
  | (refine z0d rfl 38 rfl (opL z05 none 0) HZO.out ?_)
  | (refine z02 rfl 38 _ _ rfl rfl w1.heap.size (opL z05 none 0).toArray (opV aL none 0) 38 rfl rfl (heap_alloc_new w1 _) (HSV.out aL HAR.out none 0) (HSZ.out aL HAR.out none 0) (z1i aL none 0) ?_))
 intro w2 hc2 hb2
 have hb12:Below w1.heap.size w1 w2:=But.toBelow ((Below.refl _ w1).alloc (Nat.le_refl _) _) hb2.out (Nat.le_refl _) (by rw [World.size_alloc];exact Nat.le_succ _)
 have HS2:=Lib.hid (HS1.out.below hb12)
 have HA2:=Lib.hid hc2.out
 have HB2:=Lib.hid (HB1.out.trans (hb12.mono HB1.out.size))
 have HNA:=Lib.hid (show ¬ SetO B ⟨[],[],[]⟩ w1.heap.size from fun e=>by have:=(SetO.x HS1.out e).2;omega)
 obtain ⟨ga,hga⟩:∃ g,w1.heap.size = g:=⟨_,rfl⟩
 have HGA:=Lib.hid (show w.heap.size ≤ ga from hga ▸ HB1.out.size)
 rw [hga] at HA2 HNA ⊢
 clear hc2 hb2 hb12 hga HS1
 go_wp2_with (first
  | (refine z01 rfl 38 (.tmp 2) rfl ga (opV aL none 0) 38 _ rfl HA2.out Tryz.underlying38 rfl (HSV.out aL HAR.out none 0) ?_)
  | (refine z0d rfl 38 rfl (opL z05 none 0) HZO.out ?_)
  | (refine z02 rfl 38 _ _ rfl rfl w2.heap.size (opL z05 none 0).toArray (opV aL none 0) 38 rfl rfl (heap_alloc_new w2 _) (HSV.out aL HAR.out none 0) (HSZ.out aL HAR.out none 0) (z1i aL none 0) ?_))
 intro w3 hc3 hb3
 have hb23:Below w2.heap.size w2 w3:=But.toBelow ((Below.refl _ w2).alloc (Nat.le_refl _) _) hb3.out (Nat.le_refl _) (by rw [World.size_alloc];exact Nat.le_succ _)
 have hk4:But w2.heap.size w3 (w3.setCell ⟨w2.heap.size,35,none⟩ (.int .i64 1)):=(But.refl _ w3).setCell 35 _
 have hb24:Below w2.heap.size w2 (w3.setCell ⟨w2.heap.size,35,none⟩ (.int .i64 1)):=But.toBelow hb23 hk4 (Nat.le_refl _) hb23.size
 have c35:=(z0j HAR.out hc3.out).2.1
 have f35:=Cells.frozen hc3.out 35
 have HC4:=Lib.hid (show Cells w2.heap.size 38 (opV bL none 0) (w3.setCell ⟨w2.heap.size,35,none⟩ (.int .i64 1)) from bL_set ▸ hc3.out.set 35 (.int .i64 1))
 have HS4:=Lib.hid (HS2.out.below hb24)
 have HA4:=Lib.hid (HA2.out.below hb24)
 have HB4:=Lib.hid (HB2.out.trans (hb24.mono HB2.out.size))
 have HNB:=Lib.hid (show w.heap.size ≤ w2.heap.size ∧ ¬ SetO B ⟨[],[],[]⟩ w2.heap.size from ⟨HB2.out.size,fun e=>by have:=(SetO.x HS2.out e).2;omega⟩)
 have HNE:=Lib.hid (show w2.heap.size < w3.heap.size from Cells.lt hc3.out)
 obtain ⟨gb,hgb⟩:∃ g,w2.heap.size = g:=⟨_,rfl⟩
 rw [hgb] at HC4 HNB HS4 HA4 HB4 c35 f35 ⊢
 clear hc3 hb3 hb23 hk4 hb24 hgb HS2 HA2
 go_upto_region 5 with (fail)
 obtain ⟨w4,hw4⟩:∃ z,z = w3.setCell ⟨gb,35,none⟩ (.int .i64 1):=⟨_,rfl⟩
 rw [← hw4] at HC4 HS4 HA4 HB4 ⊢
 clear hw4 c35 f35
 go_wp2_with (refine z01 rfl 38 (.tmp 2) rfl ga (opV aL none 0) 38 _ rfl HA4.out Tryz.underlying38 rfl (HSV.out aL HAR.out none 0) ?_)
 refine (ze8 X B ⟨[],[],[]⟩ DagN.new [] [] aL none 0 w4 HS4.out (fun b h=>(HX.out b).2 (Nat.le_trans HB4.out.size h)) DInv.new zd9 aL_fit (.inl rfl) (HK.out.below HB4.out) (by decide)).mono ?_
 rintro e w5 ⟨v5,X5,T5,hs5,M5,rfl,ho5,hset5,hd5,ht5,htu5,_,hx1,hx2,hx3⟩
 rw [ln_take1] at hset5 hd5 ht5
 have HB5:=Lib.hid (Only.toBelow HB4.out htu5.only (fun b h=>(HX.out b).1 (SetO.x HS4.out h).1) HB4.out.size)
 have HC5:=Lib.hid (HC4.out.only htu5.only HNB.out.2)
 have HS5:=Lib.hid hset5
 have HD5:=Lib.hid hd5
 have HT5:=Lib.hid ht5
 have HX5:=Lib.hid hx1
 have HX53:=Lib.hid hx3
 clear hset5 hd5 ht5 ho5 htu5 hx1 hx2 hx3 HS4 HA4 HC4
 go_wp2_with (refine z01 rfl 38 (.tmp 3) rfl gb (opV bL none 0) 38 _ rfl HC5.out Tryz.underlying38 rfl (HSV.out bL HBR.out none 0) ?_)
 refine (ze8 X5 B T5 ⟨[aL],[]⟩ hs5 M5 bL none 0 w5 HS5.out HX53.out HD5.out HT5.out bL_fit (.inl rfl) (HK.out.below HB5.out) (by decide)).mono ?_
 rintro e w6 ⟨v6,X6,T6,hs6,M6,rfl,ho6,hset6,hd6,ht6,htu6,_,hx1,hx2,hx3⟩
 rw [ln_take2] at hset6 hd6 ht6
 have HB6:=Lib.hid (Only.toBelow HB5.out htu6.only (fun b h=>(HX.out b).1 (HX5.out b (SetO.x HS5.out h).1)) HB5.out.size)
 have HS6:=Lib.hid hset6
 have HT6:=Lib.hid ht6
 have HRW:=Lib.hid (zgy X6 B T6 _ hs6 M6 w6 hset6 zdr ht6)
 clear hset6 hd6 ht6 ho6 htu6 hx1 hx2 hx3 HS5 HD5 HT5
 obtain ⟨x0,x1,hrow,hbf,hx0,hx1⟩:=ln_row
 rw [hrow] at HRW
 have HF0:=Lib.hid hx0
 have HF1:=Lib.hid hx1
 have HBFV:=Shut.mk hbf
 clear hrow hbf hx0 hx1
 go_upto_region 7 with (fail)
 go_wp2_with (refine HRW.out.mono ?_;rintro e w8 ⟨v8,rfl,ho8,hb8⟩;have HO8:=Lib.hid ho8;have HB8:=Lib.hid hb8;clear ho8 hb8)
 obtain ⟨gl,cl,rfl,_,_,hgl⟩:=HO8.out.formB.resolve_left (fun h=>by cases h.2)
 have HGL:=Lib.hid hgl
 obtain ⟨b0,o0,e0,_,p0,c0,r0,i0⟩:=HO8.out.at.get (i:=0) (x:=x0) rfl
 obtain ⟨b1,o1,e1,_,p1,c1,r1,i1⟩:=HO8.out.at.get (i:=1) (x:=x1) rfl
 cases e0
 cases e1
 have HR0:=Lib.hid (show w8.rangeAt gl 0 (opL x0 p0 c0) from r0)
 have HR1:=Lib.hid (show w8.rangeAt gl 38 (opL x1 p1 c1) from r1)
 have HS0:=Lib.hid (show (Tryz.prog.info? 38).map (·.size) = some (opL x0 p0 c0).length by rw [z16 HF0.out.d.ref.1];exact Tryz.sizeO)
 have HS1:=Lib.hid (show (Tryz.prog.info? 38).map (·.size) = some (opL x1 p1 c1).length by rw [z16 HF1.out.d.ref.1];exact Tryz.sizeO)
 have HBF:=Lib.hid (fun wq (k:Below w8.heap.size w8 wq)=>show Calls Tryz.prog 40 #[.agg (opV x0 p0 c0),.agg (opV x1 p1 c1)] wq fun e w'=>e = .returned (.bool true) ∧ Below wq.heap.size wq w' from HBFV.out ▸ z9s x0 x1 p0 p1 c0 c1 wq HF0.out HF1.out (i0.below k) (i1.below k))
 have HKY:=Lib.hid (fun wq (k:Below w8.heap.size w8 wq) gi (hci:wq.cell? ⟨gi,0,none⟩ = some (.int .i64 1))=>zdy X6 B T6 _ hs6 M6 (some ⟨gi,0,none⟩) [1] 1 1 wq ((HS6.out.below HB8.out).below k) zdr HT6.out ln_goods (fun i hi=>⟨_,rfl,by
  obtain rfl:i = 0:=by simpa using hi
  rw [Addr.add_lit]
  exact hci⟩) rfl (by decide))
 have HB68:=Lib.hid (HB6.out.trans (HB8.out.mono HB6.out.size))
 clear hgl r0 r1 i0 i1 HO8
 refine z0e 19 (fun q V w'=>Vals q V [(0,.slice (some ⟨gl,0,none⟩) 2 cl),(1,.int .i64 (2:Nat)),(2,.bool true),(3,.bool true),(4,.slice (some ⟨gl,0,none⟩) 2 cl),(5,.pointer (some ⟨gl,0,none⟩)),(6,.agg (opV x0 p0 c0)),(7,.slice (some ⟨gl,0,none⟩) 2 cl),(8,.pointer (some ⟨gl,38,none⟩)),(9,.agg (opV x1 p1 c1)),(10,.bool true),(11,.bool true),(12,.bool true),(13,.pointer (some ⟨B.gs,0,none⟩)),(16,.int .i64 (1:Nat)),(17,.bool true),(18,.bool true)] ∧ Below w8.heap.size w8 w' ∧ Is q V 14 (fun v w=>IntR v w) w' ∧ Is q V 15 (fun v _=>∃ a c,v = .slice a 1 c) w') (fun _=>undef) (by kernel_rfl) (by kernel_rfl) (by kernel_rfl) (by simp only [zC,zD,z0h,Act.put,zS,zA,zB]) ⟨Vals.none,(Below.refl _ _).drew,Is.none,Is.none⟩ ?_ ?_
 ·simp only [zC,zD,z0h,Nat.zero_add,Nat.reduceAdd,Act.put,zS,zA,zB]
  refine zQc ?_ (zQc ?_ (zQc ?_ (zQc ?_ (zQc ?_ (zQc ?_ (zQc ?_ (zQc ?_ (zQc ?_ (zQc ?_ (zQc ?_ (zQc ?_ (zQc ?_ (zQc ?_ (zQc ?_ (zQc ?_ (zQc ?_ (zQc ?_ (zQc ?_ (zQn)))))))))))))))))))
  ·refine zQf rfl ?_
   rintro q V wq hr hu ⟨hVs,hb,his14,his15⟩ K hK
   exact z0f (.tmp 4) rfl _ rfl (hK _ _ ⟨hVs.set rfl,hb,his14.ne (by decide) (fun _ h=>h),his15.ne (by decide) (fun _ h=>h)⟩)
  ·refine zQf rfl ?_
   rintro q V wq hr hu ⟨hVs,hb,his14,his15⟩ K hK
   exact z9n (.tmp 18) rfl (some ⟨gl,0,none⟩) 2 cl (hVs.get 0 (hr { on:=0,ground:=.data } (by simp) rfl) rfl) (hK _ _ ⟨hVs.set rfl,hb,his14.ne (by decide) (fun _ h=>h),his15.ne (by decide) (fun _ h=>h)⟩)
  ·refine zQf rfl ?_
   rintro q V wq hr hu ⟨hVs,hb,his14,his15⟩ K hK
   exact zbr .eql 3 3 (.tmp 19) _ rfl _ _ _ (hVs.get 1 (hr { on:=1,ground:=.data } (by simp) rfl) rfl) rfl (fun w=>rfl) (zl8 2) (hK _ _ ⟨hVs.set rfl,hb,his14.ne (by decide) (fun _ h=>h),his15.ne (by decide) (fun _ h=>h)⟩)
  ·refine zQf rfl ?_
   rintro q V wq hr hu ⟨hVs,hb,his14,his15⟩ K hK
   exact z0f (.tmp 20) rfl _ (hVs.get 2 (hr { on:=2,ground:=.data } (by simp) rfl) rfl) (hK _ _ ⟨hVs.set rfl,hb,his14.ne (by decide) (fun _ h=>h),his15.ne (by decide) (fun _ h=>h)⟩)
  ·refine zQa 3 true rfl (fun V hV=>by show (match some (V 3) with | some (.bool b)=>some b | _=>none) = some true;rw [hV]) (fun q V wq hr hI=>by exact hI.1.get 3 (hr { on:=3,ground:=.guard } (by simp) rfl) rfl) ?_
   rintro q V wq hr hu ⟨hVs,hb,his14,his15⟩ K hK
   exact z0f (.tmp 4) rfl _ rfl (hK _ _ ⟨hVs.set rfl,hb,his14.ne (by decide) (fun _ h=>h),his15.ne (by decide) (fun _ h=>h)⟩)
  ·refine zQa 3 true rfl (fun V hV=>by show (match some (V 3) with | some (.bool b)=>some b | _=>none) = some true;rw [hV]) (fun q V wq hr hI=>by exact hI.1.get 3 (hr { on:=3,ground:=.guard } (by simp) rfl) rfl) ?_
   rintro q V wq hr hu ⟨hVs,hb,his14,his15⟩ K hK
   exact z2r 29 (.tmp 22) _ rfl _ _ _ (hVs.get 4 (hr { on:=4,ground:=.data } (by simp) rfl) rfl) rfl (zlk gl 2 cl 0 (by decide)) (hK _ _ ⟨hVs.set rfl,hb,his14.ne (by decide) (fun _ h=>h),his15.ne (by decide) (fun _ h=>h)⟩)
  ·refine zQa 3 true rfl (fun V hV=>by show (match some (V 3) with | some (.bool b)=>some b | _=>none) = some true;rw [hV]) (fun q V wq hr hI=>by exact hI.1.get 3 (hr { on:=3,ground:=.guard } (by simp) rfl) rfl) ?_
   rintro q V wq hr hu ⟨hVs,hb,his14,his15⟩ K hK
   exact z3o 38 (.tmp 23) rfl gl 0 (opL x0 p0 c0) _ (hVs.get 5 (hr { on:=5,ground:=.data } (by simp) rfl) rfl) (z08 HR0.out hb HGL.out) Tryz.underlying38 rfl HS0.out (hK _ _ ⟨hVs.set rfl,hb,his14.ne (by decide) (fun _ h=>h),his15.ne (by decide) (fun _ h=>h)⟩)
  ·refine zQa 3 true rfl (fun V hV=>by show (match some (V 3) with | some (.bool b)=>some b | _=>none) = some true;rw [hV]) (fun q V wq hr hI=>by exact hI.1.get 3 (hr { on:=3,ground:=.guard } (by simp) rfl) rfl) ?_
   rintro q V wq hr hu ⟨hVs,hb,his14,his15⟩ K hK
   exact z0f (.tmp 4) rfl _ rfl (hK _ _ ⟨hVs.set rfl,hb,his14.ne (by decide) (fun _ h=>h),his15.ne (by decide) (fun _ h=>h)⟩)
  ·refine zQa 3 true rfl (fun V hV=>by show (match some (V 3) with | some (.bool b)=>some b | _=>none) = some true;rw [hV]) (fun q V wq hr hI=>by exact hI.1.get 3 (hr { on:=3,ground:=.guard } (by simp) rfl) rfl) ?_
   rintro q V wq hr hu ⟨hVs,hb,his14,his15⟩ K hK
   exact z2r 29 (.tmp 25) _ rfl _ _ _ (hVs.get 7 (hr { on:=7,ground:=.data } (by simp) rfl) rfl) rfl (zlk gl 2 cl 1 (by decide)) (hK _ _ ⟨hVs.set rfl,hb,his14.ne (by decide) (fun _ h=>h),his15.ne (by decide) (fun _ h=>h)⟩)
  ·refine zQa 3 true rfl (fun V hV=>by show (match some (V 3) with | some (.bool b)=>some b | _=>none) = some true;rw [hV]) (fun q V wq hr hI=>by exact hI.1.get 3 (hr { on:=3,ground:=.guard } (by simp) rfl) rfl) ?_
   rintro q V wq hr hu ⟨hVs,hb,his14,his15⟩ K hK
   exact z3o 38 (.tmp 26) rfl gl 38 (opL x1 p1 c1) _ (hVs.get 8 (hr { on:=8,ground:=.data } (by simp) rfl) rfl) (z08 HR1.out hb HGL.out) Tryz.underlying38 rfl HS1.out (hK _ _ ⟨hVs.set rfl,hb,his14.ne (by decide) (fun _ h=>h),his15.ne (by decide) (fun _ h=>h)⟩)
  ·refine zQa 3 true rfl (fun V hV=>by show (match some (V 3) with | some (.bool b)=>some b | _=>none) = some true;rw [hV]) (fun q V wq hr hI=>by exact hI.1.get 3 (hr { on:=3,ground:=.guard } (by simp) rfl) rfl) ?_
   rintro q V wq hr hu ⟨hVs,hb,his14,his15⟩ K hK
   refine z6j Tryz.func40 rfl rfl rfl [.agg (opV x0 p0 c0),.agg (opV x1 p1 c1)] (z5n (hVs.get 6 (hr { on:=6,ground:=.data } (by simp) rfl) rfl) (z5n (hVs.get 9 (hr { on:=9,ground:=.data } (by simp) rfl) rfl) rfl)) (HBF.out wq hb) ?_
   rintro e w' ⟨rfl,hb'⟩
   exact ⟨_,rfl,(hK _ _ ⟨hVs.set rfl,hb.trans (hb'.mono hb.size),his14.ne (by decide) (fun _ h=>IntR.below h hb'),his15.ne (by decide) (fun _ h=>h)⟩)⟩
  ·refine zQf rfl ?_
   rintro q V wq hr hu ⟨hVs,hb,his14,his15⟩ K hK
   exact zbu (.tmp 21) (.tmp 28) _ rfl (hVs.get 3 (hr { on:=3,ground:=.data } (by simp) rfl) rfl) _ (hVs.get 10 (hr { on:=10,ground:=.data } (by simp) rfl) rfl) (hK _ _ ⟨hVs.set rfl,hb,his14.ne (by decide) (fun _ h=>h),his15.ne (by decide) (fun _ h=>h)⟩)
  ·refine zQf rfl ?_
   rintro q V wq hr hu ⟨hVs,hb,his14,his15⟩ K hK
   exact z0f (.tmp 29) rfl _ (hVs.get 11 (hr { on:=11,ground:=.data } (by simp) rfl) rfl) (hK _ _ ⟨hVs.set rfl,hb,his14.ne (by decide) (fun _ h=>h),his15.ne (by decide) (fun _ h=>h)⟩)
  ·refine zQa 12 true rfl (fun V hV=>by show (match some (V 12) with | some (.bool b)=>some b | _=>none) = some true;rw [hV]) (fun q V wq hr hI=>by exact hI.1.get 12 (hr { on:=12,ground:=.guard } (by simp) rfl) rfl) ?_
   rintro q V wq hr hu ⟨hVs,hb,his14,his15⟩ K hK
   exact z0f (.tmp 1) rfl _ rfl (hK _ _ ⟨hVs.set rfl,hb,his14.ne (by decide) (fun _ h=>h),his15.ne (by decide) (fun _ h=>h)⟩)
  ·refine zQa 12 true rfl (fun V hV=>by show (match some (V 12) with | some (.bool b)=>some b | _=>none) = some true;rw [hV]) (fun q V wq hr hI=>by exact hI.1.get 12 (hr { on:=12,ground:=.guard } (by simp) rfl) rfl) ?_
   rintro q V wq hr hu ⟨hVs,hb,his14,his15⟩ K hK
   have hb':Below wq.heap.size wq (wq.alloc (.cells #[.int .i64 1] 3)):=(Below.refl _ _).alloc (Nat.le_refl _) _
   exact zk6 23 3 _ rfl (.int .i64 1) rfl (zdn 1) (hK _ _ ⟨hVs.off rfl,hb.trans (hb'.mono hb.size),Is.same ⟨wq.heap.size,rfl,by rw [Lib.cell_of_heap (heap_alloc_new wq _)];rfl⟩,his15.ne (by decide) (fun _ h=>h)⟩)
  ·refine zQa 12 true rfl (fun V hV=>by show (match some (V 12) with | some (.bool b)=>some b | _=>none) = some true;rw [hV]) (fun q V wq hr hI=>by exact hI.1.get 12 (hr { on:=12,ground:=.guard } (by simp) rfl) rfl) ?_
   rintro q V wq hr hu ⟨hVs,hb,his14,his15⟩ K hK
   obtain ⟨gi,ei,hci⟩:=his14 (hr { on:=14,ground:=.data } (by simp) rfl)
   refine z6j Tryz.func37 rfl rfl rfl [.pointer (some ⟨B.gs,0,none⟩),.slice (some ⟨gi,0,none⟩) 1 1] (z5n (hVs.get 13 (hr { on:=13,ground:=.data } (by simp) rfl) rfl) (z5n ei rfl)) (HKY.out wq hb gi hci) ?_
   rintro e w' ⟨v,rfl,hv,hb'⟩
   obtain ⟨av,cv,rfl⟩:=hv.form
   rw [ln_keys] at *
   exact ⟨_,rfl,(hK _ _ ⟨hVs.off rfl,hb.trans (hb'.mono hb.size),his14.ne (by decide) (fun _ h=>IntR.below h hb'),Is.same ⟨av,cv,rfl⟩⟩)⟩
  ·refine zQa 12 true rfl (fun V hV=>by show (match some (V 12) with | some (.bool b)=>some b | _=>none) = some true;rw [hV]) (fun q V wq hr hI=>by exact hI.1.get 12 (hr { on:=12,ground:=.guard } (by simp) rfl) rfl) ?_
   rintro q V wq hr hu ⟨hVs,hb,his14,his15⟩ K hK
   obtain ⟨av,cv,ev⟩:=his15 (hr { on:=15,ground:=.data } (by simp) rfl)
   exact zh6 (.tmp 33) rfl av 1 cv ev (hK _ _ ⟨hVs.set rfl,hb,his14.ne (by decide) (fun _ h=>h),his15.ne (by decide) (fun _ h=>h)⟩)
  ·refine zQa 12 true rfl (fun V hV=>by show (match some (V 12) with | some (.bool b)=>some b | _=>none) = some true;rw [hV]) (fun q V wq hr hI=>by exact hI.1.get 12 (hr { on:=12,ground:=.guard } (by simp) rfl) rfl) ?_
   rintro q V wq hr hu ⟨hVs,hb,his14,his15⟩ K hK
   exact zbr .eql 3 3 (.tmp 34) _ rfl _ _ _ (hVs.get 16 (hr { on:=16,ground:=.data } (by simp) rfl) rfl) rfl (fun w=>rfl) (zl8 1) (hK _ _ ⟨hVs.set rfl,hb,his14.ne (by decide) (fun _ h=>h),his15.ne (by decide) (fun _ h=>h)⟩)
  ·refine zQf rfl ?_
   rintro q V wq hr hu ⟨hVs,hb,his14,his15⟩ K hK
   exact zbu (.tmp 30) (.tmp 35) _ rfl (hVs.get 12 (hr { on:=12,ground:=.data } (by simp) rfl) rfl) _ (hVs.get 17 (hr { on:=17,ground:=.data } (by simp) rfl) rfl) (hK _ _ ⟨hVs.set rfl,hb,his14.ne (by decide) (fun _ h=>h),his15.ne (by decide) (fun _ h=>h)⟩)
 rintro q V wq hall ⟨hVs,hb,his14,his15⟩
 have v0:=hVs.get 0 (hall 0 (by decide)) rfl
 have v1:=hVs.get 1 (hall 1 (by decide)) rfl
 have v2:=hVs.get 2 (hall 2 (by decide)) rfl
 have v3:=hVs.get 3 (hall 3 (by decide)) rfl
 have v4:=hVs.get 4 (hall 4 (by decide)) rfl
 have v5:=hVs.get 5 (hall 5 (by decide)) rfl
 have v6:=hVs.get 6 (hall 6 (by decide)) rfl
 have v7:=hVs.get 7 (hall 7 (by decide)) rfl
 have v8:=hVs.get 8 (hall 8 (by decide)) rfl
 have v9:=hVs.get 9 (hall 9 (by decide)) rfl
 have v10:=hVs.get 10 (hall 10 (by decide)) rfl
 have v11:=hVs.get 11 (hall 11 (by decide)) rfl
 have v12:=hVs.get 12 (hall 12 (by decide)) rfl
 have v13:=hVs.get 13 (hall 13 (by decide)) rfl
 obtain ⟨u14,v14⟩:∃ v,V 14 = v:=⟨_,rfl⟩
 obtain ⟨u15,v15⟩:∃ v,V 15 = v:=⟨_,rfl⟩
 have v16:=hVs.get 16 (hall 16 (by decide)) rfl
 have v17:=hVs.get 17 (hall 17 (by decide)) rfl
 have v18:=hVs.get 18 (hall 18 (by decide)) rfl
 simp only [zC,zD,zE,zF,z0h,Nat.zero_add,Nat.reduceAdd,v0,v1,v2,v3,v4,v5,v6,v7,v8,v9,v10,v11,v12,v13,v14,v15,v16,v17,v18,Act.put,zS,zA,zB]
 clear hVs v0 v1 v2 v3 v4 v5 v6 v7 v8 v9 v10 v11 v12 v13 v14 v15 v16 v17 v18 hall
 have HBQ:=Lib.hid hb
 clear hb
 go_wp2_with fail
 go_ret
 exact ⟨rfl,HB68.out.trans (HBQ.out.mono HB68.out.size)⟩
end Go.Proofs.YtnbldbbbibpobaaGreatDoor
