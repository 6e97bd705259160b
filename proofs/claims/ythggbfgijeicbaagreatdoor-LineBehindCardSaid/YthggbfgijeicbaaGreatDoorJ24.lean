/-
  Joined: What the laws of layer 11 ask first: alive. Written by line/gen/gen_alive.py.
-/
import Derived.Test.YthggbfgijeicbaaGreatDoorJ20
import Derived.Test.YthggbfgijeicbaaGreatDoorJ22
import Derived.Test.YthggbfgijeicbaaGreatDoorJ23
namespace Go.Proofs.YthggbfgijeicbaaGreatDoor
open Go.RowKit Go.BigFrame
def IntR (v:Value) (w:World):Prop:=∃ g,v = .slice (some ⟨g,0,none⟩) 1 1 ∧ w.cell? ⟨g,0,none⟩ = some (.int .i64 1)
theorem IntR.below {v:Value} {w w':World} (h:IntR v w) (k:Below w.heap.size w w'):IntR v w':=by
 obtain ⟨g,h1,h2⟩:=h
 exact ⟨g,h1,(k.cell (p:=⟨g,0,none⟩) (lt_of_cell h2)).trans h2⟩
theorem run_build_int (z:Int) (w:World):(Instr.buildSlice 23 1 #[(0,.int .i64 z)]).run Tryz.prog w = .ok (.slice (some ⟨w.heap.size,0,none⟩) 1 1) (w.alloc (.cells #[.int .i64 z] 3)):=by
 go_simp
theorem eql_int (z:Int) (w:World):(binOp .eql 3 (.int .i64 z) (.int .i64 z)).run Tryz.prog w = .ok (.bool true) w:=by
 go_simp
theorem index_o (g n c i:Nat) (hi:i < n) (w:World):(Instr.indexAt 29 (.slice (some ⟨g,0,none⟩) n c) (.int .i64 (i:Int))).run Tryz.prog w = .ok (.pointer (some ⟨g,i * 38,none⟩)) w:=by
 have hi':(i:Int) < (n:Int):=by omega
 go_simp
section
variable {o:Oper} {a:Act} {w:World} {K:Act → World → Prop} {Q:Exit → Act → World → Prop}
theorem op_len_strs (x:Operand) (ho:o.op = .call { callee:=.builtin .len,args:=#[x],argTypes:=#[45] }) (ao:Option Addr) (n c:Nat) (hx:a.eval x = .slice ao n c)
 (h:K (a.put o.dst (.int .i64 (n:Int))) w):OpWp Tryz.prog o a w K Q:=by
 have hl:∀ ty,(Builtin.len_ #[45] ty #[.slice ao n c]).run Tryz.prog w = .ok (.int .i64 (n:Int)) w:=fun ty=>by
  go_simp
 refine ⟨?_⟩
 unfold Oper.wp execOp
 simp only [ho,resolve,invoke,builtin,Sem.run_bind,Sem.run_pure,Result.andThen_ok,List.map_toArray,List.map_cons,List.map_nil,hx,hl]
 exact h
end
set_option maxHeartbeats 8000000 in
set_option maxRecDepth 100000 in
theorem alive11 (w:World) (hk:KAt w):Calls Tryz.prog 7 #[] w fun e w'=>e = .returned (.bool true) ∧ Below w.heap.size w w':=by
 obtain ⟨X,hX⟩:∃ X:Nat → Prop,X = fun b=>w.heap.size ≤ b:=⟨_,rfl⟩
 have HX:=Lib.hid (show ∀ b,X b ↔ w.heap.size ≤ b from fun b=>by rw [hX])
 have HK:=Lib.hid hk
 have HZO:=Lib.hid (show (Tryz.prog.info? 40).bind (·.zero) = some (.agg (opL zeroO none 0).toArray) by kernel_rfl)
 have HSV:=Lib.hid (fun (o:OpN) (h:o.d.ref.length = 32) (pa:Option Addr) (pc:Nat)=>show (Tryz.prog.info? 40).map (·.size) = some (opV o pa pc).size by rw [opV_size h];exact Tryz.sizeO)
 have HSZ:=Lib.hid (fun (o:OpN) (h:o.d.ref.length = 32) (pa:Option Addr) (pc:Nat)=>show (opL zeroO none 0).toArray.size = (opV o pa pc).size by rw [opV_size h];rfl)
 have HAR:=Lib.hid (show aL.d.ref.length = 32 from aL_fit.d.ref.1)
 have HBR:=Lib.hid (show bL.d.ref.length = 32 from bL_fit.d.ref.1)
 clear hk hX
 go_enter Tryz.func7,Tryz.ntmps7
 go_wp2_with fail
 refine (dev_new X w (fun b h=>(HX.out b).2 h)).mono ?_
 rintro e w1 ⟨B,rfl,hs1,hb1⟩
 have HS1:=Lib.hid hs1
 have HB1:=Lib.hid hb1
 clear hs1 hb1
 go_wp2_with (first
  | (refine wpList_build_val rfl 38 _ rfl [(0,.int .i64 1),(1,.string ⟨#[107]⟩)] _ (by rw [List.map_toArray];rfl) built_lD ?_)
  | (refine wpList_build_val rfl 40 _ rfl [(0,.agg (draftV lD)),(2,.int .i64 1)] _ (by rw [List.map_toArray];rfl) built_aL ?_)
  | (refine wpList_alloc_of rfl 40 rfl (opL zeroO none 0) HZO.out ?_)
  | (refine wpList_store_cells rfl 40 _ _ rfl rfl w1.heap.size (opL zeroO none 0).toArray (opV aL none 0) 40 rfl rfl (heap_alloc_new w1 _) (HSV.out aL HAR.out none 0) (HSZ.out aL HAR.out none 0) (opV_all aL none 0) ?_))
 intro w2 hc2 hb2
 have hb12:Below w1.heap.size w1 w2:=But.toBelow ((Below.refl _ w1).alloc (Nat.le_refl _) _) hb2.out (Nat.le_refl _) (by rw [World.size_alloc];exact Nat.le_succ _)
 have HS2:=Lib.hid (HS1.out.below hb12)
 have HA2:=Lib.hid hc2.out
 have HB2:=Lib.hid (HB1.out.trans (hb12.mono HB1.out.size))
 have HNA:=Lib.hid (show ¬ SetO B ⟨[],[],[]⟩ w1.heap.size from fun e=>by have:=(SetO.x HS1.out e).2;omega)
 obtain ⟨ga,hga⟩:∃ g,w1.heap.size = g:=⟨_,rfl⟩
 have HGA:=Lib.hid (show w.heap.size ≤ ga from hga ▸ HB1.out.size)
 rw [hga] at HA2 HNA ⊢
 clear hc2 hb2 hb12 hga HS1
 go_wp2_with (first
  | (refine wpList_load_cells rfl 40 (.tmp 2) rfl ga (opV aL none 0) 40 _ rfl HA2.out Tryz.underlying40 rfl (HSV.out aL HAR.out none 0) ?_)
  | (refine wpList_alloc_of rfl 40 rfl (opL zeroO none 0) HZO.out ?_)
  | (refine wpList_store_cells rfl 40 _ _ rfl rfl w2.heap.size (opL zeroO none 0).toArray (opV aL none 0) 40 rfl rfl (heap_alloc_new w2 _) (HSV.out aL HAR.out none 0) (HSZ.out aL HAR.out none 0) (opV_all aL none 0) ?_))
 intro w3 hc3 hb3
 have hb23:Below w2.heap.size w2 w3:=But.toBelow ((Below.refl _ w2).alloc (Nat.le_refl _) _) hb3.out (Nat.le_refl _) (by rw [World.size_alloc];exact Nat.le_succ _)
 have hk4:But w2.heap.size w3 (w3.setCell ⟨w2.heap.size,35,none⟩ (.int .i64 1)):=(But.refl _ w3).setCell 35 _
 have hb24:Below w2.heap.size w2 (w3.setCell ⟨w2.heap.size,35,none⟩ (.int .i64 1)):=But.toBelow hb23 hk4 (Nat.le_refl _) hb23.size
 have c35:=(op_cells HAR.out hc3.out).2.1
 have f35:=Cells.frozen hc3.out 35
 have HC4:=Lib.hid (show Cells w2.heap.size 40 (opV bL none 0) (w3.setCell ⟨w2.heap.size,35,none⟩ (.int .i64 1)) from bL_set ▸ hc3.out.set 35 (.int .i64 1))
 have HS4:=Lib.hid (HS2.out.below hb24)
 have HA4:=Lib.hid (HA2.out.below hb24)
 have HB4:=Lib.hid (HB2.out.trans (hb24.mono HB2.out.size))
 have HNB:=Lib.hid (show w.heap.size ≤ w2.heap.size ∧ ¬ SetO B ⟨[],[],[]⟩ w2.heap.size from ⟨HB2.out.size,fun e=>by have:=(SetO.x HS2.out e).2;omega⟩)
 have HNE:=Lib.hid (show w2.heap.size < w3.heap.size from Cells.lt hc3.out)
 obtain ⟨gb,hgb⟩:∃ g,w2.heap.size = g:=⟨_,rfl⟩
 rw [hgb] at HC4 HNB HS4 HA4 HB4 c35 f35 ⊢
 clear hc3 hb3 hb23 hk4 hb24 hgb HS2 HA2
 go_upto_region 5 with (fail)
 obtain ⟨w4,hw4⟩:∃ z,z = w3.setCell ⟨gb,35,none⟩ (.int .i64 1):=⟨_,rfl⟩
 rw [← hw4] at HC4 HS4 HA4 HB4 ⊢
 clear hw4 c35 f35
 go_wp2_with (refine wpList_load_cells rfl 40 (.tmp 2) rfl ga (opV aL none 0) 40 _ rfl HA4.out Tryz.underlying40 rfl (HSV.out aL HAR.out none 0) ?_)
 refine (dev_take X B ⟨[],[],[]⟩ DagN.new [] [] aL none 0 w4 HS4.out (fun b h=>(HX.out b).2 (Nat.le_trans HB4.out.size h)) DInv.new tame_new aL_fit (.inl rfl) (HK.out.below HB4.out) (by decide)).mono ?_
 rintro e w5 ⟨v5,X5,T5,hs5,M5,rfl,ho5,hset5,hd5,ht5,htu5,_,hx1,hx2,hx3⟩
 rw [ln_take1] at hset5 hd5 ht5
 have HB5:=Lib.hid (Only.toBelow HB4.out htu5.only (fun b h=>(HX.out b).1 (SetO.x HS4.out h).1) HB4.out.size)
 have HC5:=Lib.hid (HC4.out.only htu5.only HNB.out.2)
 have HS5:=Lib.hid hset5
 have HD5:=Lib.hid hd5
 have HT5:=Lib.hid ht5
 have HX5:=Lib.hid hx1
 have HX53:=Lib.hid hx3
 clear hset5 hd5 ht5 ho5 htu5 hx1 hx2 hx3 HS4 HA4 HC4
 go_wp2_with (refine wpList_load_cells rfl 40 (.tmp 3) rfl gb (opV bL none 0) 40 _ rfl HC5.out Tryz.underlying40 rfl (HSV.out bL HBR.out none 0) ?_)
 refine (dev_take X5 B T5 ⟨[aL],[]⟩ hs5 M5 bL none 0 w5 HS5.out HX53.out HD5.out HT5.out bL_fit (.inl rfl) (HK.out.below HB5.out) (by decide)).mono ?_
 rintro e w6 ⟨v6,X6,T6,hs6,M6,rfl,ho6,hset6,hd6,ht6,htu6,_,hx1,hx2,hx3⟩
 rw [ln_take2] at hset6 hd6 ht6
 have HB6:=Lib.hid (Only.toBelow HB5.out htu6.only (fun b h=>(HX.out b).1 (HX5.out b (SetO.x HS5.out h).1)) HB5.out.size)
 have HS6:=Lib.hid hset6
 have HT6:=Lib.hid ht6
 have HRW:=Lib.hid (dev_row X6 B T6 _ hs6 M6 w6 hset6 ln_nodup ht6)
 clear hset6 hd6 ht6 ho6 htu6 hx1 hx2 hx3 HS5 HD5 HT5
 obtain ⟨x0,x1,hrow,hbf,hx0,hx1⟩:=ln_row
 rw [hrow] at HRW
 have HF0:=Lib.hid hx0
 have HF1:=Lib.hid hx1
 have HBFV:=Shut.mk hbf
 clear hrow hbf hx0 hx1
 go_upto_region 7 with (fail)
 go_wp2_with (refine HRW.out.mono ?_;rintro e w8 ⟨v8,rfl,ho8,hb8⟩;have HO8:=Lib.hid ho8;have HB8:=Lib.hid hb8;clear ho8 hb8)
 obtain ⟨gl,cl,rfl,_,_,hgl⟩:=HO8.out.formB.resolve_left (fun h=>by cases h.2)
 have HGL:=Lib.hid hgl
 obtain ⟨b0,o0,e0,_,p0,c0,r0,i0⟩:=HO8.out.at.get (i:=0) (x:=x0) rfl
 obtain ⟨b1,o1,e1,_,p1,c1,r1,i1⟩:=HO8.out.at.get (i:=1) (x:=x1) rfl
 cases e0
 cases e1
 have HR0:=Lib.hid (show w8.rangeAt gl 0 (opL x0 p0 c0) from r0)
 have HR1:=Lib.hid (show w8.rangeAt gl 38 (opL x1 p1 c1) from r1)
 have HS0:=Lib.hid (show (Tryz.prog.info? 40).map (·.size) = some (opL x0 p0 c0).length by rw [opL_len HF0.out.d.ref.1];exact Tryz.sizeO)
 have HS1:=Lib.hid (show (Tryz.prog.info? 40).map (·.size) = some (opL x1 p1 c1).length by rw [opL_len HF1.out.d.ref.1];exact Tryz.sizeO)
 have HBF:=Lib.hid (fun wq (k:Below w8.heap.size w8 wq)=>show Calls Tryz.prog 25 #[.agg (opV x0 p0 c0),.agg (opV x1 p1 c1)] wq fun e w'=>e = .returned (.bool true) ∧ Below wq.heap.size wq w' from HBFV.out ▸ ref_before x0 x1 p0 p1 c0 c1 wq HF0.out HF1.out (i0.below k) (i1.below k))
 have HKY:=Lib.hid (fun wq (k:Below w8.heap.size w8 wq) gi (hci:wq.cell? ⟨gi,0,none⟩ = some (.int .i64 1))=>dev_keys X6 B T6 _ hs6 M6 (some ⟨gi,0,none⟩) [1] 1 1 wq ((HS6.out.below HB8.out).below k) ln_nodup HT6.out ln_goods (fun i hi=>⟨_,rfl,by
  obtain rfl:i = 0:=by simpa using hi
  rw [Addr.add_lit]
  exact hci⟩) rfl (by decide))
 have HB68:=Lib.hid (HB6.out.trans (HB8.out.mono HB6.out.size))
 clear hgl r0 r1 i0 i1 HO8
 refine wp_region_free 19 (fun q V w'=>Val q V 0 (.slice (some ⟨gl,0,none⟩) 2 cl) ∧ Val q V 1 (.int .i64 (2:Nat)) ∧ Val q V 2 (.bool true) ∧ Val q V 3 (.bool true) ∧ Val q V 4 (.slice (some ⟨gl,0,none⟩) 2 cl) ∧ Val q V 5 (.pointer (some ⟨gl,0,none⟩)) ∧ Val q V 6 (.agg (opV x0 p0 c0)) ∧ Val q V 7 (.slice (some ⟨gl,0,none⟩) 2 cl) ∧ Val q V 8 (.pointer (some ⟨gl,38,none⟩)) ∧ Val q V 9 (.agg (opV x1 p1 c1)) ∧ Val q V 10 (.bool true) ∧ Val q V 11 (.bool true) ∧ Val q V 12 (.bool true) ∧ Val q V 13 (.pointer (some ⟨B.gs,0,none⟩)) ∧ Val q V 16 (.int .i64 (1:Nat)) ∧ Val q V 17 (.bool true) ∧ Val q V 18 (.bool true) ∧ Below w8.heap.size w8 w' ∧ Is q V 14 (fun v w=>IntR v w) w' ∧ Is q V 15 (fun v _=>∃ a c,v = .slice a 1 c) w') (fun _=>undef) (by kernel_rfl) (by kernel_rfl) (by kernel_rfl) (by simp only [List.take_succ_cons,List.take_zero,putAll,Act.put,List.setIfInBounds_toArray,List.set_cons_zero,List.set_cons_succ]) ⟨Val.none,Val.none,Val.none,Val.none,Val.none,Val.none,Val.none,Val.none,Val.none,Val.none,Val.none,Val.none,Val.none,Val.none,Val.none,Val.none,Val.none,(Below.refl _ _).drew,Is.none,Is.none⟩ ?_ ?_
 ·simp only [List.take_succ_cons,List.take_zero,putAll,Nat.zero_add,Nat.reduceAdd,Act.put,List.setIfInBounds_toArray,List.set_cons_zero,List.set_cons_succ]
  refine FreeSteps.cons ?_ (FreeSteps.cons ?_ (FreeSteps.cons ?_ (FreeSteps.cons ?_ (FreeSteps.cons ?_ (FreeSteps.cons ?_ (FreeSteps.cons ?_ (FreeSteps.cons ?_ (FreeSteps.cons ?_ (FreeSteps.cons ?_ (FreeSteps.cons ?_ (FreeSteps.cons ?_ (FreeSteps.cons ?_ (FreeSteps.cons ?_ (FreeSteps.cons ?_ (FreeSteps.cons ?_ (FreeSteps.cons ?_ (FreeSteps.cons ?_ (FreeSteps.cons ?_ (FreeSteps.nil)))))))))))))))))))
  ·refine FreeStep.fresh rfl ?_
   rintro q V wq hr hu ⟨h0,h1,h2,h3,h4,h5,h6,h7,h8,h9,h10,h11,h12,h13,h16,h17,h18,hb,his14,his15⟩ K hK
   exact op_move (.tmp 4) rfl _ rfl (hK _ _ ⟨.same,h1.nd,h2.nd,h3.nd,h4.nd,h5.nd,h6.nd,h7.nd,h8.nd,h9.nd,h10.nd,h11.nd,h12.nd,h13.nd,h16.nd,h17.nd,h18.nd,hb,his14.ne (by decide) (fun _ h=>h),his15.ne (by decide) (fun _ h=>h)⟩)
  ·refine FreeStep.fresh rfl ?_
   rintro q V wq hr hu ⟨h0,h1,h2,h3,h4,h5,h6,h7,h8,h9,h10,h11,h12,h13,h16,h17,h18,hb,his14,his15⟩ K hK
   exact op_len_ops (.tmp 18) rfl (some ⟨gl,0,none⟩) 2 cl (h0 (hr { on:=0,ground:=.data } (by simp) rfl)) (hK _ _ ⟨h0.nd,.same,h2.nd,h3.nd,h4.nd,h5.nd,h6.nd,h7.nd,h8.nd,h9.nd,h10.nd,h11.nd,h12.nd,h13.nd,h16.nd,h17.nd,h18.nd,hb,his14.ne (by decide) (fun _ h=>h),his15.ne (by decide) (fun _ h=>h)⟩)
  ·refine FreeStep.fresh rfl ?_
   rintro q V wq hr hu ⟨h0,h1,h2,h3,h4,h5,h6,h7,h8,h9,h10,h11,h12,h13,h16,h17,h18,hb,his14,his15⟩ K hK
   exact op_bin .eql 3 3 (.tmp 19) _ rfl _ _ _ (h1 (hr { on:=1,ground:=.data } (by simp) rfl)) rfl (fun w=>rfl) (eql_int 2) (hK _ _ ⟨h0.nd,h1.nd,.same,h3.nd,h4.nd,h5.nd,h6.nd,h7.nd,h8.nd,h9.nd,h10.nd,h11.nd,h12.nd,h13.nd,h16.nd,h17.nd,h18.nd,hb,his14.ne (by decide) (fun _ h=>h),his15.ne (by decide) (fun _ h=>h)⟩)
  ·refine FreeStep.fresh rfl ?_
   rintro q V wq hr hu ⟨h0,h1,h2,h3,h4,h5,h6,h7,h8,h9,h10,h11,h12,h13,h16,h17,h18,hb,his14,his15⟩ K hK
   exact op_move (.tmp 20) rfl _ (h2 (hr { on:=2,ground:=.data } (by simp) rfl)) (hK _ _ ⟨h0.nd,h1.nd,h2.nd,.same,h4.nd,h5.nd,h6.nd,h7.nd,h8.nd,h9.nd,h10.nd,h11.nd,h12.nd,h13.nd,h16.nd,h17.nd,h18.nd,hb,his14.ne (by decide) (fun _ h=>h),his15.ne (by decide) (fun _ h=>h)⟩)
  ·refine FreeStep.asked 3 true rfl (fun V hV=>by show (match some (V 3) with | some (.bool b)=>some b | _=>none) = some true;rw [hV]) (fun q V wq hr hI=>by obtain ⟨h0,h1,h2,h3,h4,h5,h6,h7,h8,h9,h10,h11,h12,h13,h16,h17,h18,hb,his14,his15⟩:=hI;exact h3 (hr { on:=3,ground:=.guard } (by simp) rfl)) ?_
   rintro q V wq hr hu ⟨h0,h1,h2,h3,h4,h5,h6,h7,h8,h9,h10,h11,h12,h13,h16,h17,h18,hb,his14,his15⟩ K hK
   exact op_move (.tmp 4) rfl _ rfl (hK _ _ ⟨h0.nd,h1.nd,h2.nd,h3.nd,.same,h5.nd,h6.nd,h7.nd,h8.nd,h9.nd,h10.nd,h11.nd,h12.nd,h13.nd,h16.nd,h17.nd,h18.nd,hb,his14.ne (by decide) (fun _ h=>h),his15.ne (by decide) (fun _ h=>h)⟩)
  ·refine FreeStep.asked 3 true rfl (fun V hV=>by show (match some (V 3) with | some (.bool b)=>some b | _=>none) = some true;rw [hV]) (fun q V wq hr hI=>by obtain ⟨h0,h1,h2,h3,h4,h5,h6,h7,h8,h9,h10,h11,h12,h13,h16,h17,h18,hb,his14,his15⟩:=hI;exact h3 (hr { on:=3,ground:=.guard } (by simp) rfl)) ?_
   rintro q V wq hr hu ⟨h0,h1,h2,h3,h4,h5,h6,h7,h8,h9,h10,h11,h12,h13,h16,h17,h18,hb,his14,his15⟩ K hK
   exact op_indexAt 29 (.tmp 22) _ rfl _ _ _ (h4 (hr { on:=4,ground:=.data } (by simp) rfl)) rfl (index_o gl 2 cl 0 (by decide)) (hK _ _ ⟨h0.nd,h1.nd,h2.nd,h3.nd,h4.nd,.same,h6.nd,h7.nd,h8.nd,h9.nd,h10.nd,h11.nd,h12.nd,h13.nd,h16.nd,h17.nd,h18.nd,hb,his14.ne (by decide) (fun _ h=>h),his15.ne (by decide) (fun _ h=>h)⟩)
  ·refine FreeStep.asked 3 true rfl (fun V hV=>by show (match some (V 3) with | some (.bool b)=>some b | _=>none) = some true;rw [hV]) (fun q V wq hr hI=>by obtain ⟨h0,h1,h2,h3,h4,h5,h6,h7,h8,h9,h10,h11,h12,h13,h16,h17,h18,hb,his14,his15⟩:=hI;exact h3 (hr { on:=3,ground:=.guard } (by simp) rfl)) ?_
   rintro q V wq hr hu ⟨h0,h1,h2,h3,h4,h5,h6,h7,h8,h9,h10,h11,h12,h13,h16,h17,h18,hb,his14,his15⟩ K hK
   exact op_load_mid 40 (.tmp 23) rfl gl 0 (opL x0 p0 c0) _ (h5 (hr { on:=5,ground:=.data } (by simp) rfl)) (rangeAt_belowI HR0.out hb HGL.out) Tryz.underlying40 rfl HS0.out (hK _ _ ⟨h0.nd,h1.nd,h2.nd,h3.nd,h4.nd,h5.nd,.same,h7.nd,h8.nd,h9.nd,h10.nd,h11.nd,h12.nd,h13.nd,h16.nd,h17.nd,h18.nd,hb,his14.ne (by decide) (fun _ h=>h),his15.ne (by decide) (fun _ h=>h)⟩)
  ·refine FreeStep.asked 3 true rfl (fun V hV=>by show (match some (V 3) with | some (.bool b)=>some b | _=>none) = some true;rw [hV]) (fun q V wq hr hI=>by obtain ⟨h0,h1,h2,h3,h4,h5,h6,h7,h8,h9,h10,h11,h12,h13,h16,h17,h18,hb,his14,his15⟩:=hI;exact h3 (hr { on:=3,ground:=.guard } (by simp) rfl)) ?_
   rintro q V wq hr hu ⟨h0,h1,h2,h3,h4,h5,h6,h7,h8,h9,h10,h11,h12,h13,h16,h17,h18,hb,his14,his15⟩ K hK
   exact op_move (.tmp 4) rfl _ rfl (hK _ _ ⟨h0.nd,h1.nd,h2.nd,h3.nd,h4.nd,h5.nd,h6.nd,.same,h8.nd,h9.nd,h10.nd,h11.nd,h12.nd,h13.nd,h16.nd,h17.nd,h18.nd,hb,his14.ne (by decide) (fun _ h=>h),his15.ne (by decide) (fun _ h=>h)⟩)
  ·refine FreeStep.asked 3 true rfl (fun V hV=>by show (match some (V 3) with | some (.bool b)=>some b | _=>none) = some true;rw [hV]) (fun q V wq hr hI=>by obtain ⟨h0,h1,h2,h3,h4,h5,h6,h7,h8,h9,h10,h11,h12,h13,h16,h17,h18,hb,his14,his15⟩:=hI;exact h3 (hr { on:=3,ground:=.guard } (by simp) rfl)) ?_
   rintro q V wq hr hu ⟨h0,h1,h2,h3,h4,h5,h6,h7,h8,h9,h10,h11,h12,h13,h16,h17,h18,hb,his14,his15⟩ K hK
   exact op_indexAt 29 (.tmp 25) _ rfl _ _ _ (h7 (hr { on:=7,ground:=.data } (by simp) rfl)) rfl (index_o gl 2 cl 1 (by decide)) (hK _ _ ⟨h0.nd,h1.nd,h2.nd,h3.nd,h4.nd,h5.nd,h6.nd,h7.nd,.same,h9.nd,h10.nd,h11.nd,h12.nd,h13.nd,h16.nd,h17.nd,h18.nd,hb,his14.ne (by decide) (fun _ h=>h),his15.ne (by decide) (fun _ h=>h)⟩)
  ·refine FreeStep.asked 3 true rfl (fun V hV=>by show (match some (V 3) with | some (.bool b)=>some b | _=>none) = some true;rw [hV]) (fun q V wq hr hI=>by obtain ⟨h0,h1,h2,h3,h4,h5,h6,h7,h8,h9,h10,h11,h12,h13,h16,h17,h18,hb,his14,his15⟩:=hI;exact h3 (hr { on:=3,ground:=.guard } (by simp) rfl)) ?_
   rintro q V wq hr hu ⟨h0,h1,h2,h3,h4,h5,h6,h7,h8,h9,h10,h11,h12,h13,h16,h17,h18,hb,his14,his15⟩ K hK
   exact op_load_mid 40 (.tmp 26) rfl gl 38 (opL x1 p1 c1) _ (h8 (hr { on:=8,ground:=.data } (by simp) rfl)) (rangeAt_belowI HR1.out hb HGL.out) Tryz.underlying40 rfl HS1.out (hK _ _ ⟨h0.nd,h1.nd,h2.nd,h3.nd,h4.nd,h5.nd,h6.nd,h7.nd,h8.nd,.same,h10.nd,h11.nd,h12.nd,h13.nd,h16.nd,h17.nd,h18.nd,hb,his14.ne (by decide) (fun _ h=>h),his15.ne (by decide) (fun _ h=>h)⟩)
  ·refine FreeStep.asked 3 true rfl (fun V hV=>by show (match some (V 3) with | some (.bool b)=>some b | _=>none) = some true;rw [hV]) (fun q V wq hr hI=>by obtain ⟨h0,h1,h2,h3,h4,h5,h6,h7,h8,h9,h10,h11,h12,h13,h16,h17,h18,hb,his14,his15⟩:=hI;exact h3 (hr { on:=3,ground:=.guard } (by simp) rfl)) ?_
   rintro q V wq hr hu ⟨h0,h1,h2,h3,h4,h5,h6,h7,h8,h9,h10,h11,h12,h13,h16,h17,h18,hb,his14,his15⟩ K hK
   refine op_call Tryz.func25 rfl rfl rfl [.agg (opV x0 p0 c0),.agg (opV x1 p1 c1)] (cons_eq (h6 (hr { on:=6,ground:=.data } (by simp) rfl)) (cons_eq (h9 (hr { on:=9,ground:=.data } (by simp) rfl)) rfl)) (HBF.out wq hb) ?_
   rintro e w' ⟨rfl,hb'⟩
   exact ⟨_,rfl,(hK _ _ ⟨h0.nd,h1.nd,h2.nd,h3.nd,h4.nd,h5.nd,h6.nd,h7.nd,h8.nd,h9.nd,.same,h11.nd,h12.nd,h13.nd,h16.nd,h17.nd,h18.nd,hb.trans (hb'.mono hb.size),his14.ne (by decide) (fun _ h=>IntR.below h hb'),his15.ne (by decide) (fun _ h=>h)⟩)⟩
  ·refine FreeStep.fresh rfl ?_
   rintro q V wq hr hu ⟨h0,h1,h2,h3,h4,h5,h6,h7,h8,h9,h10,h11,h12,h13,h16,h17,h18,hb,his14,his15⟩ K hK
   exact op_pick_yes (.tmp 21) (.tmp 28) _ rfl (h3 (hr { on:=3,ground:=.data } (by simp) rfl)) _ (h10 (hr { on:=10,ground:=.data } (by simp) rfl)) (hK _ _ ⟨h0.nd,h1.nd,h2.nd,h3.nd,h4.nd,h5.nd,h6.nd,h7.nd,h8.nd,h9.nd,h10.nd,.same,h12.nd,h13.nd,h16.nd,h17.nd,h18.nd,hb,his14.ne (by decide) (fun _ h=>h),his15.ne (by decide) (fun _ h=>h)⟩)
  ·refine FreeStep.fresh rfl ?_
   rintro q V wq hr hu ⟨h0,h1,h2,h3,h4,h5,h6,h7,h8,h9,h10,h11,h12,h13,h16,h17,h18,hb,his14,his15⟩ K hK
   exact op_move (.tmp 29) rfl _ (h11 (hr { on:=11,ground:=.data } (by simp) rfl)) (hK _ _ ⟨h0.nd,h1.nd,h2.nd,h3.nd,h4.nd,h5.nd,h6.nd,h7.nd,h8.nd,h9.nd,h10.nd,h11.nd,.same,h13.nd,h16.nd,h17.nd,h18.nd,hb,his14.ne (by decide) (fun _ h=>h),his15.ne (by decide) (fun _ h=>h)⟩)
  ·refine FreeStep.asked 12 true rfl (fun V hV=>by show (match some (V 12) with | some (.bool b)=>some b | _=>none) = some true;rw [hV]) (fun q V wq hr hI=>by obtain ⟨h0,h1,h2,h3,h4,h5,h6,h7,h8,h9,h10,h11,h12,h13,h16,h17,h18,hb,his14,his15⟩:=hI;exact h12 (hr { on:=12,ground:=.guard } (by simp) rfl)) ?_
   rintro q V wq hr hu ⟨h0,h1,h2,h3,h4,h5,h6,h7,h8,h9,h10,h11,h12,h13,h16,h17,h18,hb,his14,his15⟩ K hK
   exact op_move (.tmp 1) rfl _ rfl (hK _ _ ⟨h0.nd,h1.nd,h2.nd,h3.nd,h4.nd,h5.nd,h6.nd,h7.nd,h8.nd,h9.nd,h10.nd,h11.nd,h12.nd,.same,h16.nd,h17.nd,h18.nd,hb,his14.ne (by decide) (fun _ h=>h),his15.ne (by decide) (fun _ h=>h)⟩)
  ·refine FreeStep.asked 12 true rfl (fun V hV=>by show (match some (V 12) with | some (.bool b)=>some b | _=>none) = some true;rw [hV]) (fun q V wq hr hI=>by obtain ⟨h0,h1,h2,h3,h4,h5,h6,h7,h8,h9,h10,h11,h12,h13,h16,h17,h18,hb,his14,his15⟩:=hI;exact h12 (hr { on:=12,ground:=.guard } (by simp) rfl)) ?_
   rintro q V wq hr hu ⟨h0,h1,h2,h3,h4,h5,h6,h7,h8,h9,h10,h11,h12,h13,h16,h17,h18,hb,his14,his15⟩ K hK
   have hb':Below wq.heap.size wq (wq.alloc (.cells #[.int .i64 1] 3)):=(Below.refl _ _).alloc (Nat.le_refl _) _
   exact op_build1 23 3 _ rfl (.int .i64 1) rfl (run_build_int 1) (hK _ _ ⟨h0.nd,h1.nd,h2.nd,h3.nd,h4.nd,h5.nd,h6.nd,h7.nd,h8.nd,h9.nd,h10.nd,h11.nd,h12.nd,h13.nd,h16.nd,h17.nd,h18.nd,hb.trans (hb'.mono hb.size),Is.same ⟨wq.heap.size,rfl,by rw [Lib.cell_of_heap (heap_alloc_new wq _)];rfl⟩,his15.ne (by decide) (fun _ h=>h)⟩)
  ·refine FreeStep.asked 12 true rfl (fun V hV=>by show (match some (V 12) with | some (.bool b)=>some b | _=>none) = some true;rw [hV]) (fun q V wq hr hI=>by obtain ⟨h0,h1,h2,h3,h4,h5,h6,h7,h8,h9,h10,h11,h12,h13,h16,h17,h18,hb,his14,his15⟩:=hI;exact h12 (hr { on:=12,ground:=.guard } (by simp) rfl)) ?_
   rintro q V wq hr hu ⟨h0,h1,h2,h3,h4,h5,h6,h7,h8,h9,h10,h11,h12,h13,h16,h17,h18,hb,his14,his15⟩ K hK
   obtain ⟨gi,ei,hci⟩:=his14 (hr { on:=14,ground:=.data } (by simp) rfl)
   refine op_call Tryz.func17 rfl rfl rfl [.pointer (some ⟨B.gs,0,none⟩),.slice (some ⟨gi,0,none⟩) 1 1] (cons_eq (h13 (hr { on:=13,ground:=.data } (by simp) rfl)) (cons_eq ei rfl)) (HKY.out wq hb gi hci) ?_
   rintro e w' ⟨v,rfl,hv,hb'⟩
   obtain ⟨av,cv,rfl⟩:=hv.form
   rw [ln_keys] at *
   exact ⟨_,rfl,(hK _ _ ⟨h0.nd,h1.nd,h2.nd,h3.nd,h4.nd,h5.nd,h6.nd,h7.nd,h8.nd,h9.nd,h10.nd,h11.nd,h12.nd,h13.nd,h16.nd,h17.nd,h18.nd,hb.trans (hb'.mono hb.size),his14.ne (by decide) (fun _ h=>IntR.below h hb'),Is.same ⟨av,cv,rfl⟩⟩)⟩
  ·refine FreeStep.asked 12 true rfl (fun V hV=>by show (match some (V 12) with | some (.bool b)=>some b | _=>none) = some true;rw [hV]) (fun q V wq hr hI=>by obtain ⟨h0,h1,h2,h3,h4,h5,h6,h7,h8,h9,h10,h11,h12,h13,h16,h17,h18,hb,his14,his15⟩:=hI;exact h12 (hr { on:=12,ground:=.guard } (by simp) rfl)) ?_
   rintro q V wq hr hu ⟨h0,h1,h2,h3,h4,h5,h6,h7,h8,h9,h10,h11,h12,h13,h16,h17,h18,hb,his14,his15⟩ K hK
   obtain ⟨av,cv,ev⟩:=his15 (hr { on:=15,ground:=.data } (by simp) rfl)
   exact op_len_strs (.tmp 33) rfl av 1 cv ev (hK _ _ ⟨h0.nd,h1.nd,h2.nd,h3.nd,h4.nd,h5.nd,h6.nd,h7.nd,h8.nd,h9.nd,h10.nd,h11.nd,h12.nd,h13.nd,.same,h17.nd,h18.nd,hb,his14.ne (by decide) (fun _ h=>h),his15.ne (by decide) (fun _ h=>h)⟩)
  ·refine FreeStep.asked 12 true rfl (fun V hV=>by show (match some (V 12) with | some (.bool b)=>some b | _=>none) = some true;rw [hV]) (fun q V wq hr hI=>by obtain ⟨h0,h1,h2,h3,h4,h5,h6,h7,h8,h9,h10,h11,h12,h13,h16,h17,h18,hb,his14,his15⟩:=hI;exact h12 (hr { on:=12,ground:=.guard } (by simp) rfl)) ?_
   rintro q V wq hr hu ⟨h0,h1,h2,h3,h4,h5,h6,h7,h8,h9,h10,h11,h12,h13,h16,h17,h18,hb,his14,his15⟩ K hK
   exact op_bin .eql 3 3 (.tmp 34) _ rfl _ _ _ (h16 (hr { on:=16,ground:=.data } (by simp) rfl)) rfl (fun w=>rfl) (eql_int 1) (hK _ _ ⟨h0.nd,h1.nd,h2.nd,h3.nd,h4.nd,h5.nd,h6.nd,h7.nd,h8.nd,h9.nd,h10.nd,h11.nd,h12.nd,h13.nd,h16.nd,.same,h18.nd,hb,his14.ne (by decide) (fun _ h=>h),his15.ne (by decide) (fun _ h=>h)⟩)
  ·refine FreeStep.fresh rfl ?_
   rintro q V wq hr hu ⟨h0,h1,h2,h3,h4,h5,h6,h7,h8,h9,h10,h11,h12,h13,h16,h17,h18,hb,his14,his15⟩ K hK
   exact op_pick_yes (.tmp 30) (.tmp 35) _ rfl (h12 (hr { on:=12,ground:=.data } (by simp) rfl)) _ (h17 (hr { on:=17,ground:=.data } (by simp) rfl)) (hK _ _ ⟨h0.nd,h1.nd,h2.nd,h3.nd,h4.nd,h5.nd,h6.nd,h7.nd,h8.nd,h9.nd,h10.nd,h11.nd,h12.nd,h13.nd,h16.nd,h17.nd,.same,hb,his14.ne (by decide) (fun _ h=>h),his15.ne (by decide) (fun _ h=>h)⟩)
 rintro q V wq hall ⟨h0,h1,h2,h3,h4,h5,h6,h7,h8,h9,h10,h11,h12,h13,h16,h17,h18,hb,his14,his15⟩
 have v0:=h0 (hall 0 (by decide))
 have v1:=h1 (hall 1 (by decide))
 have v2:=h2 (hall 2 (by decide))
 have v3:=h3 (hall 3 (by decide))
 have v4:=h4 (hall 4 (by decide))
 have v5:=h5 (hall 5 (by decide))
 have v6:=h6 (hall 6 (by decide))
 have v7:=h7 (hall 7 (by decide))
 have v8:=h8 (hall 8 (by decide))
 have v9:=h9 (hall 9 (by decide))
 have v10:=h10 (hall 10 (by decide))
 have v11:=h11 (hall 11 (by decide))
 have v12:=h12 (hall 12 (by decide))
 have v13:=h13 (hall 13 (by decide))
 obtain ⟨u14,v14⟩:∃ v,V 14 = v:=⟨_,rfl⟩
 obtain ⟨u15,v15⟩:∃ v,V 15 = v:=⟨_,rfl⟩
 have v16:=h16 (hall 16 (by decide))
 have v17:=h17 (hall 17 (by decide))
 have v18:=h18 (hall 18 (by decide))
 simp only [List.take_succ_cons,List.take_zero,List.drop_succ_cons,List.drop_zero,putAll,Nat.zero_add,Nat.reduceAdd,v0,v1,v2,v3,v4,v5,v6,v7,v8,v9,v10,v11,v12,v13,v14,v15,v16,v17,v18,Act.put,List.setIfInBounds_toArray,List.set_cons_zero,List.set_cons_succ]
 clear h0 h1 h2 h3 h4 h5 h6 h7 h8 h9 h10 h11 h12 h13 h16 h17 h18 v0 v1 v2 v3 v4 v5 v6 v7 v8 v9 v10 v11 v12 v13 v14 v15 v16 v17 v18 hall
 have HBQ:=Lib.hid hb
 clear hb
 go_wp2_with fail
 go_ret
 exact ⟨rfl,HB68.out.trans (HBQ.out.mono HB68.out.size)⟩
end Go.Proofs.YthggbfgijeicbaaGreatDoor
