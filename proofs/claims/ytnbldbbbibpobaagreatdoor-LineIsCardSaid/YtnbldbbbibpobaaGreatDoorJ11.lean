/-
  Joined: A queue's Swap and Push, Pop. Written by dag/gen/gen_qu.py.; A queue's Push and Pop. Written by dag/gen/gen_qu.py.; container/heap over the queue: up, down, Push, Pop.; container/heap over the queue: Push, Pop.; The developers' set and a queue beside it.
-/
import Derived.Test.YtnbldbbbibpobaaGreatDoorJ07
import Derived.Test.YtnbldbbbibpobaaGreatDoorJ10
set_option maxRecDepth 100000
set_option maxHeartbeats 8000000
namespace Go.Proofs.YtnbldbbbibpobaaGreatDoor
open Go.RowKit Go.BigFrame
section
variable {o:Oper} {a:Act} {w:World} {K:Act → World → Prop} {Q:Exit → Act → World → Prop}
theorem zh0 (hg:o.guard = none) (x y:Operand) (ho:o.op = .store 25 x y) (hd:o.dst = none) (g n c i:Nat) (L:List (List Nat)) (l:List Nat) (hn:n = L.length) (hx:a.eval x = .pointer (some ⟨g,i * 32,none⟩)) (hy:a.eval y = .agg (z07 .u8 l).toArray)
 (hO:OwnI 0 25 (.slice (some ⟨g,0,none⟩) n c) L w) (hL:Ids L) (hi:i < n) (hl:l.length = 32) (ll:∀ y ∈ l,y < 256) (h:∀ w',OwnI 0 25 (.slice (some ⟨g,0,none⟩) n c) (L.set i l) w' → But g w w' → K (a.put o.dst undef) w'):OpWp Tryz.prog o a w K Q :=
 z1q (ops:=#[]) hg (z2o hg 25 x y ho hd 0 g n c i (i * 32) 25 L l hn (Nat.mul_comm _ _) hx hy hO hL hi hl ll Tryz.sizeI (fun w' h1 h2=>⟨rfl,by
  have:=h w' h1.out h2.out
  rw [hd] at this
  exact this⟩))
end
theorem zau (g n c j:Nat) (hj:j < n) (w:World):(Instr.indexAt 110 (.slice (some ⟨g,0,none⟩) n c) (.int .i64 (j:Int))).run Tryz.prog w = .ok (.pointer (some ⟨g,j * 32,none⟩)) w:=by
 have hjn:(j:Int) < (n:Int):=by omega
 go_simp
theorem qu_swap (g n c i j:Nat) (Q:List (List Nat)) (w:World) (h:OwnI 0 25 (.slice (some ⟨g,0,none⟩) n c) Q w) (hQ:Ids Q) (hn:n = Q.length) (hi:i < n) (hj:j < n) :
 Calls Tryz.prog 191 #[.slice (some ⟨g,0,none⟩) n c,.int .i64 i,.int .i64 j] w fun e w'=>e = .returned (.tuple #[]) ∧ OwnI 0 25 (.slice (some ⟨g,0,none⟩) n c) (z4g Q i j) w' ∧ Only (fun b=>b = g) w w':=by
 have i1:=Ids.getD hQ (i:=i) (by omega)
 have i2:=Ids.getD hQ (i:=j) (by omega)
 have HX:=Lib.hid (fun w' (k:OwnI 0 25 (.slice (some ⟨g,0,none⟩) n c) Q w')=>show w'.rangeAt g (i * 32) (z07 .u8 (Q.getD i [])) from by
  have hat:=k.at hQ
  have g1:=hat.get (i:=i) (by omega)
  obtain ⟨b,ob,e,hbl⟩:=hat.some (by omega)
  cases e
  rwa [Nat.zero_add] at g1)
 have HY:=Lib.hid (fun w' (k:OwnI 0 25 (.slice (some ⟨g,0,none⟩) n c) Q w')=>show w'.rangeAt g (j * 32) (z07 .u8 (Q.getD j [])) from by
  have hat:=k.at hQ
  have g1:=hat.get (i:=j) (by omega)
  obtain ⟨b,ob,e,hbl⟩:=hat.some (by omega)
  cases e
  rwa [Nat.zero_add] at g1)
 have HSW:=Shut.mk (show z4g Q i j = (Q.set i (Q.getD j [])).set j (Q.getD i []) from rfl)
 obtain ⟨SW,hSW⟩:∃ S,z4g Q i j = S:=⟨_,rfl⟩
 rw [hSW] at HSW ⊢
 obtain ⟨x,hx⟩:∃ x,Q.getD i [] = x:=⟨_,rfl⟩
 obtain ⟨y,hy⟩:∃ x,Q.getD j [] = x:=⟨_,rfl⟩
 rw [hx] at HX i1 HSW
 rw [hy] at HY i2 HSW
 have HXI:=Lib.hid i1
 have HYI:=Lib.hid i2
 have HSX:=Lib.hid (show (Tryz.prog.info? 25).map (·.size) = some x.length by rw [i1.1];exact Tryz.sizeI)
 have HSY:=Lib.hid (show (Tryz.prog.info? 25).map (·.size) = some y.length by rw [i2.1];exact Tryz.sizeI)
 have HII:=Lib.hid (fun w'=>zau g n c i hi w')
 have HIJ:=Lib.hid (fun w'=>zau g n c j hj w')
 have HN:=Lib.hid hn
 have HQ:=Lib.hid hQ
 have HI:=Lib.hid hi
 have HJ:=Lib.hid hj
 have hr00:OwnI 0 25 (.slice (some ⟨g,0,none⟩) n c) Q w.drew:=h.below (Below.refl _ _).drew
 have HR0:=Lib.hid hr00
 have HQS:=Lib.hid (show Ids (Q.set i y) from hQ.set i i2.1 i2.2)
 have hjn:(j:Int) < (n:Int):=by omega
 clear h hQ i1 i2 hx hy hSW hn hr00
 go_enter Tryz.func191,Tryz.ntmps191
 go_upto_region 0 with (fail)
 refine z0e 14 (fun q V w'=>Val q V 0 (.slice (some ⟨g,0,none⟩) n c) ∧ Val q V 1 (.int .i64 i) ∧ Val q V 2 (.slice (some ⟨g,0,none⟩) n c) ∧ Val q V 3 (.int .i64 j) ∧ Val q V 4 (.slice (some ⟨g,0,none⟩) n c) ∧ Val q V 5 (.int .i64 j) ∧ Val q V 6 (.pointer (some ⟨g,j * 32,none⟩)) ∧ Val q V 7 (.agg (z07 .u8 y).toArray) ∧ Val q V 8 (.slice (some ⟨g,0,none⟩) n c) ∧ Val q V 9 (.int .i64 i) ∧ Val q V 10 (.pointer (some ⟨g,i * 32,none⟩)) ∧ Val q V 11 (.agg (z07 .u8 x).toArray) ∧ Val q V 12 (.pointer (some ⟨g,i * 32,none⟩)) ∧ Only (fun b=>b = g) w w' ∧ Late q 7 13 ∧ Late q 11 13 ∧ (q 13 = false → OwnI 0 25 (.slice (some ⟨g,0,none⟩) n c) Q w') ∧ (q 13 = true → OwnI 0 25 (.slice (some ⟨g,0,none⟩) n c) (Q.set i y) w')) (fun _=>undef) (by kernel_rfl) (by kernel_rfl) (by kernel_rfl) (by simp only [zC,zD,z0h,Act.put,zS,zA,zB]) ⟨Val.none,Val.none,Val.none,Val.none,Val.none,Val.none,Val.none,Val.none,Val.none,Val.none,Val.none,Val.none,Val.none,Only.of (Below.refl _ _).drew,Late.none,Late.none,(fun _=>HR0.out),(fun h=>by cases h)⟩ ?_ ?_
 ·simp only [zC,zD,z0h,Nat.zero_add,Nat.reduceAdd,Act.put,zS,zA,zB]
  refine zQc ?_ (zQc ?_ (zQc ?_ (zQc ?_ (zQc ?_ (zQc ?_ (zQc ?_ (zQc ?_ (zQc ?_ (zQc ?_ (zQc ?_ (zQc ?_ (zQc ?_ (zQc ?_ (zQn))))))))))))))
  all_goals (refine zQf rfl ?_;rintro q V wq hr hu ⟨h0,h1,h2,h3,h4,h5,h6,h7,h8,h9,h10,h11,h12,hb,hl7,hl11,hr0,hr1⟩ K hK)
  ·exact z0f (.tmp 0) rfl _ rfl (hK _ _ ⟨.same,h1.nd,h2.nd,h3.nd,h4.nd,h5.nd,h6.nd,h7.nd,h8.nd,h9.nd,h10.nd,h11.nd,h12.nd,hb,hl7.nd,hl11.nd,(fun hs=>hr0 (by rwa [z12 (by decide)] at hs)),(fun hs=>hr1 (by rwa [z12 (by decide)] at hs))⟩)
  ·exact z0f (.tmp 1) rfl _ rfl (hK _ _ ⟨h0.nd,.same,h2.nd,h3.nd,h4.nd,h5.nd,h6.nd,h7.nd,h8.nd,h9.nd,h10.nd,h11.nd,h12.nd,hb,hl7.nd,hl11.nd,(fun hs=>hr0 (by rwa [z12 (by decide)] at hs)),(fun hs=>hr1 (by rwa [z12 (by decide)] at hs))⟩)
  ·exact z0f (.tmp 0) rfl _ rfl (hK _ _ ⟨h0.nd,h1.nd,.same,h3.nd,h4.nd,h5.nd,h6.nd,h7.nd,h8.nd,h9.nd,h10.nd,h11.nd,h12.nd,hb,hl7.nd,hl11.nd,(fun hs=>hr0 (by rwa [z12 (by decide)] at hs)),(fun hs=>hr1 (by rwa [z12 (by decide)] at hs))⟩)
  ·exact z0f (.tmp 2) rfl _ rfl (hK _ _ ⟨h0.nd,h1.nd,h2.nd,.same,h4.nd,h5.nd,h6.nd,h7.nd,h8.nd,h9.nd,h10.nd,h11.nd,h12.nd,hb,hl7.nd,hl11.nd,(fun hs=>hr0 (by rwa [z12 (by decide)] at hs)),(fun hs=>hr1 (by rwa [z12 (by decide)] at hs))⟩)
  ·exact z0f (.tmp 0) rfl _ rfl (hK _ _ ⟨h0.nd,h1.nd,h2.nd,h3.nd,.same,h5.nd,h6.nd,h7.nd,h8.nd,h9.nd,h10.nd,h11.nd,h12.nd,hb,hl7.nd,hl11.nd,(fun hs=>hr0 (by rwa [z12 (by decide)] at hs)),(fun hs=>hr1 (by rwa [z12 (by decide)] at hs))⟩)
  ·exact z0f (.tmp 2) rfl _ rfl (hK _ _ ⟨h0.nd,h1.nd,h2.nd,h3.nd,h4.nd,.same,h6.nd,h7.nd,h8.nd,h9.nd,h10.nd,h11.nd,h12.nd,hb,hl7.nd,hl11.nd,(fun hs=>hr0 (by rwa [z12 (by decide)] at hs)),(fun hs=>hr1 (by rwa [z12 (by decide)] at hs))⟩)
  ·exact z2r 110 (.tmp 10) (.tmp 11) rfl _ _ _ (h4 (hr { on:=4,ground:=.data } (by simp) rfl)) (h5 (hr { on:=5,ground:=.data } (by simp) rfl)) HIJ.out (hK _ _ ⟨h0.nd,h1.nd,h2.nd,h3.nd,h4.nd,h5.nd,.same,h7.nd,h8.nd,h9.nd,h10.nd,h11.nd,h12.nd,hb,hl7.nd,hl11.nd,(fun hs=>hr0 (by rwa [z12 (by decide)] at hs)),(fun hs=>hr1 (by rwa [z12 (by decide)] at hs))⟩)
  ·exact z9f 25 (.tmp 12) rfl g (j * 32) y _ (h6 (hr { on:=6,ground:=.data } (by simp) rfl)) (HY.out _ (hr0 (hl7.not hu))) Tryz.underlying25 rfl HSY.out (hK _ _ ⟨h0.nd,h1.nd,h2.nd,h3.nd,h4.nd,h5.nd,h6.nd,.same,h8.nd,h9.nd,h10.nd,h11.nd,h12.nd,hb,hl7.nd,hl11.nd,(fun hs=>hr0 (by rwa [z12 (by decide)] at hs)),(fun hs=>hr1 (by rwa [z12 (by decide)] at hs))⟩)
  ·exact z0f (.tmp 0) rfl _ rfl (hK _ _ ⟨h0.nd,h1.nd,h2.nd,h3.nd,h4.nd,h5.nd,h6.nd,h7.nd,.same,h9.nd,h10.nd,h11.nd,h12.nd,hb,hl7.nd,hl11.nd,(fun hs=>hr0 (by rwa [z12 (by decide)] at hs)),(fun hs=>hr1 (by rwa [z12 (by decide)] at hs))⟩)
  ·exact z0f (.tmp 1) rfl _ rfl (hK _ _ ⟨h0.nd,h1.nd,h2.nd,h3.nd,h4.nd,h5.nd,h6.nd,h7.nd,h8.nd,.same,h10.nd,h11.nd,h12.nd,hb,hl7.nd,hl11.nd,(fun hs=>hr0 (by rwa [z12 (by decide)] at hs)),(fun hs=>hr1 (by rwa [z12 (by decide)] at hs))⟩)
  ·exact z2r 110 (.tmp 14) (.tmp 15) rfl _ _ _ (h8 (hr { on:=8,ground:=.data } (by simp) rfl)) (h9 (hr { on:=9,ground:=.data } (by simp) rfl)) HII.out (hK _ _ ⟨h0.nd,h1.nd,h2.nd,h3.nd,h4.nd,h5.nd,h6.nd,h7.nd,h8.nd,h9.nd,.same,h11.nd,h12.nd,hb,hl7.nd,hl11.nd,(fun hs=>hr0 (by rwa [z12 (by decide)] at hs)),(fun hs=>hr1 (by rwa [z12 (by decide)] at hs))⟩)
  ·exact z9f 25 (.tmp 16) rfl g (i * 32) x _ (h10 (hr { on:=10,ground:=.data } (by simp) rfl)) (HX.out _ (hr0 (hl11.not hu))) Tryz.underlying25 rfl HSX.out (hK _ _ ⟨h0.nd,h1.nd,h2.nd,h3.nd,h4.nd,h5.nd,h6.nd,h7.nd,h8.nd,h9.nd,h10.nd,.same,h12.nd,hb,hl7.nd,hl11.nd,(fun hs=>hr0 (by rwa [z12 (by decide)] at hs)),(fun hs=>hr1 (by rwa [z12 (by decide)] at hs))⟩)
  ·exact z2r 110 (.tmp 6) (.tmp 7) rfl _ _ _ (h0 (hr { on:=0,ground:=.data } (by simp) rfl)) (h1 (hr { on:=1,ground:=.data } (by simp) rfl)) HII.out (hK _ _ ⟨h0.nd,h1.nd,h2.nd,h3.nd,h4.nd,h5.nd,h6.nd,h7.nd,h8.nd,h9.nd,h10.nd,h11.nd,.same,hb,hl7.nd,hl11.nd,(fun hs=>hr0 (by rwa [z12 (by decide)] at hs)),(fun hs=>hr1 (by rwa [z12 (by decide)] at hs))⟩)
  ·refine zh0 rfl (.tmp 18) (.tmp 13) rfl rfl g n c i Q y HN.out (h12 (hr { on:=12,ground:=.data } (by simp) rfl)) (h7 (hr { on:=7,ground:=.data } (by simp) rfl)) (hr0 hu) HQ.out HI.out HYI.out.1 HYI.out.2 ?_
   intro w' ho' hbt
   have hbn:Only (fun b=>b = g) w w':=hb.but hbt (.inl rfl)
   exact (hK _ _ ⟨h0.nd,h1.nd,h2.nd,h3.nd,h4.nd,h5.nd,h6.nd,h7.nd,h8.nd,h9.nd,h10.nd,h11.nd,h12.nd,hbn,Late.same (hr { on:=7,ground:=.data } (by simp) rfl),Late.same (hr { on:=11,ground:=.phase } (by simp) rfl),(fun hs=>by simp at hs),(fun _=>ho')⟩)
 rintro q V wq hall ⟨h0,h1,h2,h3,h4,h5,h6,h7,h8,h9,h10,h11,h12,hb,hl7,hl11,hr0,hr1⟩
 have v0:=h0 (hall 0 (by decide))
 have v1:=h1 (hall 1 (by decide))
 have v2:=h2 (hall 2 (by decide))
 have v3:=h3 (hall 3 (by decide))
 have v4:=h4 (hall 4 (by decide))
 have v5:=h5 (hall 5 (by decide))
 have v6:=h6 (hall 6 (by decide))
 have v7:=h7 (hall 7 (by decide))
 have v8:=h8 (hall 8 (by decide))
 have v9:=h9 (hall 9 (by decide))
 have v10:=h10 (hall 10 (by decide))
 have v11:=h11 (hall 11 (by decide))
 have v12:=h12 (hall 12 (by decide))
 obtain ⟨u13,v13⟩:∃ v,V 13 = v:=⟨_,rfl⟩
 have hrow:=hr1 (hall 13 (by decide))
 have hon:=hb
 clear hr0 hr1 hb
 simp only [zC,zD,zE,zF,z0h,Nat.zero_add,Nat.reduceAdd,v0,v1,v2,v3,v4,v5,v6,v7,v8,v9,v10,v11,v12,Act.put,zS,zA,zB]
 clear h0 h1 h2 h3 h4 h5 h6 h7 h8 h9 h10 h11 h12 v0 v1 v2 v3 v4 v5 v6 v7 v8 v9 v10 v11 v12 v13 hall hl7 hl11
 have HRW:=Lib.hid hrow
 have HON:=Lib.hid hon
 clear hrow hon
 go_wp2_with (refine z2o rfl 25 _ _ rfl rfl 0 g n c j _ 25 _ x (by rw [List.length_set];exact HN.out) (Nat.mul_comm _ _) rfl rfl HRW.out HQS.out HJ.out HXI.out.1 HXI.out.2 Tryz.sizeI ?_)
 intro w2 h2 hb2
 have HF:=Lib.hid (show OwnI 0 25 (.slice (some ⟨g,0,none⟩) n c) SW w2 from HSW.out ▸ h2.out)
 have HO2:=Lib.hid (show Only (fun b=>b = g) w w2 from HON.out.but hb2.out (.inl rfl))
 clear h2 hb2
 go_wp2_with fail
 refine bodyPost_end (results_none rfl _ _ _) rfl ?_
 exact ⟨rfl,HF.out,HO2.out⟩
section
variable {o:Oper} {a:Act} {w:World} {K:Act → World → Prop} {Q:Exit → Act → World → Prop}
theorem zlf (x:Operand) (t u:TypeId) (c:Bool) (ho:o.op = .typeAssert x t u c) (vx r:Value) (hx:a.eval x = vx) (hr:∀ w,(Instr.typeAssert vx t u c).run Tryz.prog w = .ok r w) (h:K (a.put o.dst r) w):OpWp Tryz.prog o a w K Q:=by
 refine ⟨?_⟩
 unfold Oper.wp execOp
 simp only [ho,hx,hr w,Sem.run_bind,Sem.run_pure,Result.andThen_ok]
 exact h
theorem op_lit_q (hg:o.guard = none) (z:Operand) (ho:o.op = .buildSlice 110 1 #[(0,z)]) (y:List Nat) (hy:y.length = 32) (hz:a.eval z = .agg (z07 .u8 y).toArray)
 (h:∀ w',Below w.heap.size w w' → IAt (some ⟨w.heap.size,0,none⟩) [y] w' → K (a.put o.dst (.slice (some ⟨w.heap.size,0,none⟩) 1 1)) w'):OpWp Tryz.prog o a w K Q :=
 z1q (ops:=#[]) hg (z13 hg 110 25 z ho y hz hy Tryz.underlying110 Tryz.infoI32 (fun w' h1 h2=>⟨rfl,h w' h2.out (z5m h1.out)⟩))
theorem zke (hg:o.guard = none) (s z:Operand) (ho:o.op = .call { callee:=.builtin .append,args:=#[s,z],argTypes:=#[110,110] }) (v:Value) (L:List (List Nat)) (y:List Nat) (hy:IdOk y) (ad:Addr)
 (hs:a.eval s = v) (hown:OwnI 0 25 v L w) (hz:a.eval z = .slice (some ad) 1 1) (hsrc:IAt (some ad) [y] w) (h63:L.length + 1 ≤ 1000000)
 (h:∀ v' w',OwnI 0 25 v' (L ++ [y]) w' → w.grownBy w' v.ownBlock → (v'.ownBlock = v.ownBlock ∨ v'.ownBlock = some w.heap.size) → K (a.put o.dst v') w'):OpWp Tryz.prog o a w K Q :=
 z1q (ops:=#[]) hg (z0w hg s z 110 25 ho 0 (.agg (z07 .u8 (List.replicate 32 0)).toArray) rfl Tryz.underlying110 Tryz.infoI32 v L [y] (Ids.one hy.1 hy.2) (some ad) 1 1 rfl hs hown hz hsrc (fun h=>by cases h) h63 (Nat.zero_le _)
  (fun v' w' h1 h2 h3=>⟨rfl,h v' w' h1.out h2.out h3.out⟩))
end
theorem zc1 (g n c j:Nat) (w:World) (hj:j ≤ n) (hc:n ≤ c):(Instr.sliceAt 110 (.slice (some ⟨g,0,none⟩) n c) none (some (.int .i64 (j:Int))) none).run Tryz.prog w = .ok (.slice (some ⟨g,0,none⟩) j c) w:=by
 go_simp
 intro h
 omega
theorem zft (n:List Nat) (w:World):(Instr.typeAssert (.iface 25 (.agg (z07 .u8 n).toArray)) 20 25 false).run Tryz.prog w = .ok (.agg (z07 .u8 n).toArray) w:=by
 unfold Instr.typeAssert
 simp only [Sem.run_bind,run_underlying Tryz.underlying25,Result.andThen_ok,if_true,Bool.false_eq_true,if_false,Sem.run_pure]
theorem qu_push (q0:Nat) (v:Value) (Q:List (List Nat)) (n:List Nat) (w:World) (h:QAt q0 v Q w) (hn:IdOk n) (hl:Q.length ≤ 100000) :
 Calls Tryz.prog 190 #[.pointer (some ⟨q0,0,none⟩),.iface 25 (.agg (z07 .u8 n).toArray)] w fun e w'=>e = .returned (.tuple #[]) ∧ ∃ v',QAt q0 v' (Q ++ [n]) w' ∧ Turn (QO q0 v) (QO q0 v') w w':=by
 have HQ:=Lib.hid h
 have HN:=Lib.hid hn
 have HRW:=Lib.hid h.row
 have HLN:=Lib.hid (show Q.length + 1 ≤ 1000000 by omega)
 have HCF:=Lib.hid (fun (w':World) (k:Only (fun b=>v.ownBlock = some b) w w')=>show w'.cell? ⟨q0,0,none⟩ = some v from by rw [(HQ.out.cell.only k (fun e=>HQ.out.ne e)).at 0];rfl)
 clear h hn hl
 go_enter Tryz.func190,Tryz.ntmps190
 go_upto_region 0 with (fail)
 refine z0e 8 (fun q V w'=>Val q V 0 (.pointer (some ⟨q0,0,none⟩)) ∧ Val q V 1 (.pointer (some ⟨q0,0,none⟩)) ∧ Val q V 2 (.pointer (some ⟨q0,0,none⟩)) ∧ Val q V 3 (v) ∧ Val q V 4 (.iface 25 (.agg (z07 .u8 n).toArray)) ∧ Val q V 5 (.agg (z07 .u8 n).toArray) ∧ Only (fun b=>v.ownBlock = some b) w w' ∧ Chain [6,7] (fun _=>True) (PushI w v Q n) q V w') (fun _=>undef) (by kernel_rfl) (by kernel_rfl) (by kernel_rfl) (by simp only [zC,zD,z0h,Act.put,zS,zA,zB]) ⟨Val.none,Val.none,Val.none,Val.none,Val.none,Val.none,Only.of (Below.refl _ _).drew,Chain.none trivial (fun _=>(Below.refl _ _).drew)⟩ ?_ ?_
 ·simp only [zC,zD,z0h,Nat.zero_add,Nat.reduceAdd,Act.put,zS,zA,zB]
  refine zQc ?_ (zQc ?_ (zQc ?_ (zQc ?_ (zQc ?_ (zQc ?_ (zQc ?_ (zQc ?_ (zQn))))))))
  all_goals (refine zQf rfl ?_;rintro q V wq hr hu ⟨h0,h1,h2,h3,h4,h5,hb,hch⟩ K hK)
  ·exact z0f (.tmp 0) rfl _ rfl (hK _ _ ⟨.same,h1.nd,h2.nd,h3.nd,h4.nd,h5.nd,hb,hch.ne (by decide) (by decide)⟩)
  ·exact z0f (.tmp 0) rfl _ rfl (hK _ _ ⟨h0.nd,.same,h2.nd,h3.nd,h4.nd,h5.nd,hb,hch.ne (by decide) (by decide)⟩)
  ·exact z0l (.tmp 5) rfl ⟨q0,0,none⟩ (h1 (hr { on:=1,ground:=.data } (by simp) rfl)) (hK _ _ ⟨h0.nd,h1.nd,.same,h3.nd,h4.nd,h5.nd,hb,hch.ne (by decide) (by decide)⟩)
  ·exact z0n 110 (.tmp 6) rfl _ _ (h2 (hr { on:=2,ground:=.data } (by simp) rfl)) (HCF.out wq hb) Tryz.isAgg110 (hK _ _ ⟨h0.nd,h1.nd,h2.nd,.same,h4.nd,h5.nd,hb,hch.ne (by decide) (by decide)⟩)
  ·exact z0f (.tmp 1) rfl _ rfl (hK _ _ ⟨h0.nd,h1.nd,h2.nd,h3.nd,.same,h5.nd,hb,hch.ne (by decide) (by decide)⟩)
  ·exact zlf (.tmp 8) _ _ _ rfl _ _ (h4 (hr { on:=4,ground:=.data } (by simp) rfl)) (zft n) (hK _ _ ⟨h0.nd,h1.nd,h2.nd,h3.nd,h4.nd,.same,hb,hch.ne (by decide) (by decide)⟩)
  ·have hm:Below w.heap.size w wq:=hch.at 0 (by decide) hu (.inl rfl)
   refine op_lit_q rfl (.tmp 9) rfl n HN.out.1 (h5 (hr { on:=5,ground:=.data } (by simp) rfl)) ?_
   intro w' hb' hsrc
   have hbn:Only (fun b=>v.ownBlock = some b) w w':=hb.below hb'
   have hc6:=hch.step (v:=.slice (some ⟨wq.heap.size,0,none⟩) 1 1) 0 (by decide) (by decide) hu (.inl rfl) trivial ⟨Below.trans hm (hb'.mono hm.size),wq.heap.size,rfl,hsrc⟩
   exact (hK _ _ ⟨h0.nd,h1.nd,h2.nd,h3.nd,h4.nd,h5.nd,hbn,hc6⟩)
  ·obtain ⟨hm,g,hv6,hsrc⟩:PushI w v Q n 1 (V 6) wq:=hch.at 1 (by decide) hu (.inr (hr { on:=6,ground:=.data } (by simp) rfl))
   refine zke rfl (.tmp 7) (.tmp 10) rfl v Q n HN.out ⟨g,0,none⟩ (h3 (hr { on:=3,ground:=.data } (by simp) rfl)) (HRW.out.below hm) hv6 hsrc HLN.out ?_
   intro v' w' ho' hg' hd'
   have hbn:Only (fun b=>v.ownBlock = some b) w w':=hb.grown hg' (fun b hb=>.inl hb)
   have hc7:=hch.step (v:=v') 1 (by decide) (by decide) hu (.inr (hr { on:=6,ground:=.data } (by simp) rfl)) trivial ⟨hbn,ho',Moved.of hd' hm.size⟩
   exact (hK _ _ ⟨h0.nd,h1.nd,h2.nd,h3.nd,h4.nd,h5.nd,hbn,hc7⟩)
 rintro q V wq hall ⟨h0,h1,h2,h3,h4,h5,hb,hch⟩
 have v0:=h0 (hall 0 (by decide))
 have v1:=h1 (hall 1 (by decide))
 have v2:=h2 (hall 2 (by decide))
 have v3:=h3 (hall 3 (by decide))
 have v4:=h4 (hall 4 (by decide))
 have v5:=h5 (hall 5 (by decide))
 obtain ⟨u6,v6⟩:∃ v,V 6 = v:=⟨_,rfl⟩
 obtain ⟨u7,v7⟩:∃ v,V 7 = v:=⟨_,rfl⟩
 obtain ⟨hon,hrow,hmv⟩:PushI w v Q n 2 (V 7) wq:=hch.fin (fun p hp=>by match p,hp with | 0,_=>exact hall 6 (by decide) | 1,_=>exact hall 7 (by decide))
 rw [v7] at hrow hmv
 clear hch
 simp only [zC,zD,zE,zF,z0h,Nat.zero_add,Nat.reduceAdd,v0,v1,v2,v3,v4,v5,v6,v7,Act.put,zS,zA,zB]
 clear h0 h1 h2 h3 h4 h5 v0 v1 v2 v3 v4 v5 v6 v7 hall
 obtain ⟨a7,c7,rfl⟩:=hrow.form
 obtain ⟨u7,hu7⟩:∃ u,u = Value.slice a7 (Q ++ [n]).length c7:=⟨_,rfl⟩
 have hln1:(Q ++ [n]).length = Q.length + 1:=by simp
 have hcs:=HQ.out.cell.only hon (fun e=>HQ.out.ne e)
 rw [← hu7] at hrow hmv
 have HCS:=Lib.hid hcs
 have cf:wq.cell? ⟨q0,0,none⟩ = some v:=by rw [hcs.at 0];rfl
 have ff:wq.frozen? ⟨q0,0,none⟩ = false:=hcs.frozen 0
 have hvq:u7.ownBlock ≠ some q0:=z11 hrow hcs (by decide)
 have HF:=Lib.hid (show QAt q0 u7 (Q ++ [n]) (wq.setCell ⟨q0,0,none⟩ u7) from ⟨hcs.set 0 u7,hrow.only (z9i (gs:=q0) (j:=0) (v:=u7)) (fun g hg e=>hvq (e ▸ hg)),HQ.out.ids.append (Ids.one HN.out.1 HN.out.2)⟩)
 have HT:=Lib.hid (show Turn (QO q0 v) (QO q0 u7) w (wq.setCell ⟨q0,0,none⟩ u7) from by
  have k2:=z8y (v:=u7) (gs:=q0) (j:=0) hon
  refine ⟨⟨k2.os,k2.tape,k2.output,k2.size,fun i hi hn=>k2.block i hi (fun e=>hn (e.elim .inr .inl))⟩,?_⟩
  rintro b (hb | hb)
  ·exact .inl (.inl hb)
  ·exact (hmv b hb).imp .inr id)
 rw [hu7,hln1] at HF HT
 clear hcs hon hrow hmv hvq hb hu7 hln1
 go_wp2_with fail
 refine bodyPost_end (results_none rfl _ _ _) rfl ?_
 exact ⟨rfl,_,HF.out,HT.out⟩
theorem qu_pop (q0:Nat) (v:Value) (Q:List (List Nat)) (w:World) (h:QAt q0 v Q w) (hl:Q.length ≤ 100000) (h0:0 < Q.length) :
 Calls Tryz.prog 189 #[.pointer (some ⟨q0,0,none⟩)] w fun e w'=>e = .returned (.iface 25 (.agg (z07 .u8 (qAt Q (Q.length - 1))).toArray)) ∧ ∃ v',QAt q0 v' Q.dropLast w' ∧ Turn (QO q0 v) (QO q0 v') w w':=by
 obtain ⟨ao,c,rfl⟩:=h.form
 have hat:=h.row.at h.ids
 obtain ⟨g,og,rfl,hbl⟩:=hat.some h0
 have hg1:=hat.get (i:=Q.length - 1) (by omega)
 have i1:=Ids.getD h.ids (i:=Q.length - 1) (by omega)
 have hrow:=h.row
 obtain ⟨rfl⟩:og = 0:=by
  rcases hrow.2 with ⟨h1,_⟩ | ⟨g',cap,cur,h1,_⟩
  ·cases h1
  ·cases h1;rfl
 rw [Nat.zero_add] at hg1
 have hcut:=hrow.cutLast h.ids rfl
 obtain ⟨n,hn⟩:∃ n,Q.length = n:=⟨_,rfl⟩
 have HNQ:=Shut.mk hn
 obtain ⟨x,hx⟩:∃ x,Q.getD (Q.length - 1) [] = x:=⟨_,rfl⟩
 rw [show qAt Q (Q.length - 1) = x from hx]
 rw [hx] at hg1 i1
 rw [hn] at hg1 hcut hl h0 h hrow
 have HQ:=Lib.hid h
 have HX:=Lib.hid hg1
 have HXI:=Lib.hid i1
 have HCUT:=Lib.hid hcut
 have HS1:=Lib.hid (show (Tryz.prog.info? 25).map (·.size) = some x.length by rw [i1.1];exact Tryz.sizeI)
 have HL2:=Lib.hid (show (List.replicate 32 0).length = x.length by rw [i1.1];rfl)
 have hc0:=h.at0
 have hqlt:=h.cell.lt
 obtain ⟨m,hm⟩:∃ m,n = m + 1:=⟨n - 1,by omega⟩
 subst hm
 rw [show m + 1 - 1 = m from rfl] at HX HCUT
 rw [hn]
 have hmi:((m + 1:Nat):Int) - 1 = (m:Int):=by omega
 have hml:(m:Int) < ((m + 1:Nat):Int):=by omega
 have HSL:=Lib.hid (fun w'=>zc1 g (m + 1) c m w' (Nat.le_succ m) (by
  rcases HQ.out.row.2 with ⟨h1,_⟩ | ⟨g',cap,cur,h1,_,_,h2,_⟩
  ·cases h1
  ·injection h1 with _ _ h3
   subst h3
   rw [HNQ.out] at h2
   exact h2))
 clear hat h hrow hcut hg1 i1 hx hn h0 hbl
 go_enter Tryz.func189,Tryz.ntmps189
 go_wp2_with (first
  | (refine z0a rfl 25 _ rfl g (m * 32) x _ rfl HX.out Tryz.underlying25 rfl HS1.out ?_)
  | (refine z06 rfl 25 _ _ rfl rfl w.heap.size .u8 (List.replicate 32 0) x 25 rfl rfl (heap_alloc_new w _) HS1.out HL2.out ?_))
 intro w2 hc' hb'
 have HB2:=Lib.hid (show Below w.heap.size w w2 from But.toBelow ((Below.refl _ _).alloc (Nat.le_refl _) _) hb'.out (Nat.le_refl _) (by rw [World.size_alloc];exact Nat.le_succ _))
 obtain ⟨g4,hg4⟩:∃ g,w.heap.size = g:=⟨_,rfl⟩
 have HC4:=Lib.hid (show Blk g4 25 .u8 x w2 from hg4 ▸ hc'.out)
 have HG4:=Lib.hid hg4
 rw [hg4]
 have HQ2:=Lib.hid (HQ.out.below HB2.out)
 have HCUT2:=Lib.hid (HCUT.out.below HB2.out)
 have cf:w2.cell? ⟨q0,0,none⟩ = some (.slice (some ⟨g,0,none⟩) (m + 1) c):=HQ2.out.at0
 have ff:w2.frozen? ⟨q0,0,none⟩ = false:=HQ2.out.cell.frozen 0
 have hsl:=HSL.out
 clear hc' hb' hg4 hc0 HX
 go_upto_region 4 with (fail)
 obtain ⟨w3,hw3⟩:∃ x,x = w2.setCell ⟨q0,0,none⟩ (.slice (some ⟨g,0,none⟩) m c):=⟨_,rfl⟩
 have hgq:(Value.slice (some ⟨g,0,none⟩) (m + 1) c).ownBlock ≠ some q0:=HQ2.out.ne
 have hor:Only (fun b=>b = q0) w2 w3:=hw3 ▸ z9i
 have HF:=Lib.hid (show QAt q0 (.slice (some ⟨g,0,none⟩) m c) Q.dropLast w3 from ⟨hw3 ▸ HQ2.out.cell.set 0 _,HCUT2.out.only hor (fun b hb e=>hgq (by rw [← e];exact hb)),fun x hx=>HQ.out.ids x (List.dropLast_subset _ hx)⟩)
 have HT:=Lib.hid (show Turn (QO q0 (.slice (some ⟨g,0,none⟩) (m + 1) c)) (QO q0 (.slice (some ⟨g,0,none⟩) m c)) w w3 from by
  refine (Turn.of HB2.out).trans ⟨⟨hor.os,hor.tape,hor.output,hor.size,fun i hi hn=>hor.block i hi (fun e=>hn (.inl e))⟩,fun b hb=>.inl hb⟩)
 have HC43:=Lib.hid (HC4.out.only hor (fun e=>by have:=HG4.out;omega))
 rw [← hw3]
 clear hw3 hor hgq cf ff hsl
 go_wp2_with (refine z04 rfl 25 (.tmp 4) rfl g4 .u8 x 25 _ rfl (HC43.out) Tryz.underlying25 rfl HS1.out ?_)
 go_ret
 exact ⟨rfl,_,HF.out,HT.out⟩
def hq (q:Nat):Value:=.iface 109 (.pointer (some ⟨q,0,none⟩))
theorem zaa {q:Nat} {v:Value} {Q:List (List Nat)} {w:World} (h:QAt q v Q w) {name:String} {f:FuncId} (hr:z4v Tryz.prog 109 name = some ([],some (f,false))) (k:Nat):(method (k + 1) 109 (.pointer (some ⟨q,0,none⟩)) name).run Tryz.prog w = .ok (f,v) w :=
 zfo k 110 hr Tryz.underlying109 _ _ (zji h.at0)
theorem inv_p (q:Nat) (w:World) {name:String} {f:FuncId} (hr:z4v Tryz.prog 109 name = some ([],some (f,true))) (k:Nat):(method (k + 1) 109 (.pointer (some ⟨q,0,none⟩)) name).run Tryz.prog w = .ok (f,.pointer (some ⟨q,0,none⟩)) w :=
 zfv k 110 hr Tryz.underlying109 _
theorem zem {q g n c i j:Nat} {Q:List (List Nat)} {w:World} (h:QAt q (.slice (some ⟨g,0,none⟩) n c) Q w) (hn:n = Q.length) (hi:i < n) (hj:j < n) :
 Calls Tryz.prog 191 #[.slice (some ⟨g,0,none⟩) n c,.int .i64 i,.int .i64 j] w fun e w'=>e = .returned (.tuple #[]) ∧ QAt q (.slice (some ⟨g,0,none⟩) n c) (z4g Q i j) w' ∧ Turn (QO q (.slice (some ⟨g,0,none⟩) n c)) (QO q (.slice (some ⟨g,0,none⟩) n c)) w w':=by
 have hne:=h.ne
 refine (qu_swap g n c i j Q w h.row h.ids hn hi hj).mono ?_
 rintro e w' ⟨rfl,h1,h2⟩
 refine ⟨rfl,⟨h.cell.only h2 (fun e=>hne (by rw [e];rfl)),h1,fun x hx=>h.ids x ((z4p (by omega) (by omega)).mem_iff.1 hx)⟩,⟨h2.os,h2.tape,h2.output,h2.size,fun k hk hn=>h2.block k hk (fun e=>hn (.inr (by rw [e];rfl)))⟩,fun b hb=>.inl hb⟩
theorem zge {q g n c i j:Nat} {Q:List (List Nat)} {w:World} (h:QAt q (.slice (some ⟨g,0,none⟩) n c) Q w) (hn:n = Q.length) (hm:n ≤ 1000000) (hi:i < n) (hj:j < n) :
 Calls Tryz.prog 188 #[.slice (some ⟨g,0,none⟩) n c,.int .i64 i,.int .i64 j] w fun e w'=>e = .returned (.bool (decide (z1t (qAt Q i) (qAt Q j) < 0))) ∧ Below w.heap.size w w' :=
 qu_less g n c i j Q w h.row h.ids hn.symm hm hi hj
theorem z3v (a b:List Nat):decide (z1t a b < 0) = true ↔ Less a b:=by
 rw [decide_eq_true_iff,Less]
 rcases z42 a b with h | h | h <;> rw [h] <;> decide
theorem dev_up (q g n c j0:Nat) (Q0:List (List Nat)) (w:World) (h:QAt q (.slice (some ⟨g,0,none⟩) n c) Q0 w) (hn:n = Q0.length) (hm:n ≤ 1000000) (hj0:j0 < n) (hu:UpOk Q0 n j0) :
 Calls Tryz.prog 131 #[hq q,.int .i64 j0] w fun e w'=>e = .returned (.tuple #[]) ∧ ∃ Q',Q'.Perm Q0 ∧ HeapN Q' n ∧ QAt q (.slice (some ⟨g,0,none⟩) n c) Q' w' ∧ Turn (QO q (.slice (some ⟨g,0,none⟩) n c)) (QO q (.slice (some ⟨g,0,none⟩) n c)) w w':=by
 unfold hq
 have HN0:=Lib.hid hn
 go_enter Tryz.func131,Tryz.ntmps131
 go_wp2_with fail
 go_loopw [1] (fun i wr=>∃ (j:Nat) (Q:List (List Nat)),j < n ∧ i = .int .i64 j ∧ Q.Perm Q0 ∧ UpOk Q n j ∧ QAt q (.slice (some ⟨g,0,none⟩) n c) Q wr ∧ Turn (QO q (.slice (some ⟨g,0,none⟩) n c)) (QO q (.slice (some ⟨g,0,none⟩) n c)) w wr) (fun i _=>(intOf i).toNat)
 case atStart=>exact ⟨j0,Q0,hj0,rfl,List.Perm.refl _,hu,h,Turn.refl _ _⟩
 case round =>
  clear h hu hj0
  obtain ⟨j,Q,hj,rfl,hp,hu,hq,ht⟩:=hrel
  have HP:=Lib.hid hp
  have HU:=Lib.hid hu
  have HQ:=Lib.hid hq
  have HT:=Lib.hid ht
  have HLN:=Lib.hid (show n = Q.length by rw [hp.length_eq];exact hn)
  clear hp hu hq ht hn
  by_cases h0:j = 0
  ·subst h0
   have HH:=Lib.hid (HU.out.stop (.inl rfl))
   go_wp2_with fail
   refine bodyPost_end (results_none rfl _ _ _) rfl ?_
   exact ⟨rfl,Q,HP.out,HH.out,HQ.out,HT.out⟩
  ·obtain ⟨i,hi⟩:∃ i,(j - 1) / 2 = i:=⟨_,rfl⟩
   have HI:=Shut.mk hi
   have hij:i < j:=by omega
   have hdiv:((j:Int) - 1).tdiv 2 = (i:Int):=by
    rw [Int.tdiv_eq_ediv_of_nonneg (by omega)]
    omega
   have hne:((i:Int) == (j:Int)) = false:=by simp;omega
   obtain ⟨z,hz⟩:∃ z,decide (z1t (qAt Q j) (qAt Q i) < 0) = z:=⟨_,rfl⟩
   have HL:=Lib.hid (zge HQ.out HLN.out hm hj (show i < n by omega))
   rw [hz] at HL
   have HZ:=Shut.mk hz
   clear hz hi
   go_upto_region 1 with (fail)
   go_wp2_with (refine z5e (by rfl) Tryz.func188  rfl rfl (.tmp 12) "Less" _ _ rfl _ _ _ rfl (zaa HQ.out z8v) [.int .i64 j, .int .i64 i] rfl HL.out ?_)
   rintro e w5 rfl hb5
   refine ⟨_,rfl,?_⟩
   have HQ5:=Lib.hid (HQ.out.below hb5)
   have HT5:=Lib.hid (HT.out.below hb5)
   clear hb5 HL HQ HT
   cases z with
   | false =>
     have HH:=Lib.hid (HU.out.stop (.inr (by
      rw [HI.out]
      intro e
      have:=(z3v _ _).2 e
      rw [HZ.out] at this
      cases this)))
     go_wp2_with fail
     refine bodyPost_end (results_none rfl _ _ _) rfl ?_
     exact ⟨rfl,Q,HP.out,HH.out,HQ5.out,HT5.out⟩
   | true =>
     have HSW:=Lib.hid (zem HQ5.out HLN.out (show i < n by omega) hj)
     have HU2:=Lib.hid (show UpOk (z4g Q i j) n i from by
      have:=HU.out.swap HQ5.out.len32 (by rw [HLN.out];exact Nat.le_refl _) (by omega) hj (by rw [HI.out];exact (z3v _ _).1 HZ.out)
      rwa [HI.out] at this)
     have HP2:=Lib.hid ((z4p (Q:=Q) (i:=i) (j:=j) (by rw [← HLN.out];omega) (by rw [← HLN.out];exact hj)).trans HP.out)
     go_wp2_with (refine z1d rfl Tryz.func191 rfl rfl (.tmp 18) "Swap" _ _ rfl _ _ _ rfl (zaa HQ5.out z8e) [.int .i64 i, .int .i64 j] rfl HSW.out ?_)
     rintro e w6 rfl hq6 ht6
     refine ⟨_,rfl,?_⟩
     have HQ6:=Lib.hid hq6
     have HT6:=Lib.hid (HT5.out.trans ht6)
     clear hq6 ht6 HSW
     go_wp2_with fail
     exact ⟨⟨i,z4g Q i j,by omega,rfl,HP2.out,HU2.out,HQ6.out,HT6.out⟩,by simp [intOf];omega⟩
theorem dev_down (q g n c m:Nat) (Q0:List (List Nat)) (w:World) (h:QAt q (.slice (some ⟨g,0,none⟩) n c) Q0 w) (hn:n = Q0.length) (hm:n ≤ 1000000) (hmn:m ≤ n) (hu:DownOk Q0 m 0) :
 Calls Tryz.prog 101 #[hq q,.int .i64 0,.int .i64 m] w fun e w'=>(∃ v,e = .returned v) ∧ ∃ Q',Q'.Perm Q0 ∧ HeapN Q' m ∧ (∀ k,m ≤ k → qAt Q' k = qAt Q0 k) ∧ QAt q (.slice (some ⟨g,0,none⟩) n c) Q' w' ∧ Turn (QO q (.slice (some ⟨g,0,none⟩) n c)) (QO q (.slice (some ⟨g,0,none⟩) n c)) w w':=by
 unfold hq
 have HN0:=Lib.hid hn
 go_enter Tryz.func101,Tryz.ntmps101
 go_wp2_with fail
 go_loopw [7] (fun i wr=>∃ (j:Nat) (Q:List (List Nat)),i = .int .i64 j ∧ Q.Perm Q0 ∧ DownOk Q m j ∧ (∀ k,m ≤ k → qAt Q k = qAt Q0 k) ∧ j ≤ n ∧ QAt q (.slice (some ⟨g,0,none⟩) n c) Q wr ∧ Turn (QO q (.slice (some ⟨g,0,none⟩) n c)) (QO q (.slice (some ⟨g,0,none⟩) n c)) w wr) (fun i _=>n - (intOf i).toNat)
 case atStart=>exact ⟨0,Q0,rfl,List.Perm.refl _,hu,fun _ _=>rfl,Nat.zero_le _,h,Turn.refl _ _⟩
 case round =>
  clear h hu
  obtain ⟨i,Q,rfl,hp,hu,hr,hjn,hq,ht⟩:=hrel
  have HP:=Lib.hid hp
  have HU:=Lib.hid hu
  have HR:=Lib.hid hr
  have HQ:=Lib.hid hq
  have HT:=Lib.hid ht
  have HLN:=Lib.hid (show n = Q.length by rw [hp.length_eq];exact hn)
  clear hp hu hq ht hr hn
  by_cases h1:2 * i + 1 < m
  ·have hin:i < n:=by omega
   obtain ⟨j1,hj1e⟩:∃ j,j = 2 * i + 1:=⟨_,rfl⟩
   have hj1c:2 * (i:Int) + 1 = (j1:Int):=by omega
   have hj1:¬ (m:Int) ≤ (j1:Int):=by omega
   have hj1p:¬ (j1:Int) < 0:=by omega
   have hm1:j1 < m:=by omega
   clear hj1e h1
   by_cases h2:j1 + 1 < m
   ·obtain ⟨j2,hj2e⟩:∃ j,j = j1 + 1:=⟨_,rfl⟩
    have hj2c:(j1:Int) + 1 = (j2:Int):=by omega
    have hj2:(j2:Int) < (m:Int):=by omega
    clear hj2e h2
    obtain ⟨z,hz⟩:∃ z,decide (z1t (qAt Q j2) (qAt Q j1) < 0) = z:=⟨_,rfl⟩
    have HL:=Lib.hid (zge HQ.out HLN.out hm (show j2 < n by omega) (show j1 < n by omega))
    rw [hz] at HL
    have HZ:=Shut.mk hz
    clear hz
    go_wp2_with (refine z5e (by rfl) Tryz.func188  rfl rfl (.tmp 29) "Less" _ _ rfl _ _ _ rfl (zaa HQ.out z8v) [.int .i64 j2, .int .i64 j1] rfl HL.out ?_)
    rintro e w5 rfl hb5
    refine ⟨_,rfl,?_⟩
    have HQ5:=Lib.hid (HQ.out.below hb5)
    have HT5:=Lib.hid (HT.out.below hb5)
    clear hb5 HL HQ HT
    cases z with
    | false =>
      have HMIN:=Lib.hid (show ∀ c,0 < c → c < m → (c - 1) / 2 = i → ¬ Less (qAt Q c) (qAt Q j1) from fun c hc0 hcm hci=>by
       rcases (show c = j1 ∨ c = j2 by omega) with rfl | rfl
       ·exact fun e=>z5v e e
       ·intro e
        have:=(z3v _ _).2 e
        rw [HZ.out] at this
        cases this)
      obtain ⟨y,hy⟩:∃ y,decide (z1t (qAt Q j1) (qAt Q i) < 0) = y:=⟨_,rfl⟩
      have HLL:=Lib.hid (zge HQ5.out HLN.out hm (show j1 < n by omega) hin)
      rw [hy] at HLL
      have HY:=Shut.mk hy
      clear hy
      go_wp2_with (refine z1d rfl Tryz.func188  rfl rfl (.tmp 35) "Less" _ _ rfl _ _ _ rfl (zaa HQ5.out z8v) [.int .i64 j1, .int .i64 i] rfl HLL.out ?_)
      rintro e w7 rfl hb7
      refine ⟨_,rfl,?_⟩
      have HQ7:=Lib.hid (HQ5.out.below hb7)
      have HT7:=Lib.hid (HT5.out.below hb7)
      clear hb7 HLL HQ5 HT5
      cases y with
      | false =>
        have HH:=Lib.hid (HU.out.stop (fun c hc0 hcm hci=>by
         have h3:=HMIN.out c hc0 hcm hci
         have L:∀ k,k < n → (qAt Q k).length = 32:=fun k hk=>HQ7.out.len32 _ (z81 (by rw [← HLN.out];exact hk))
         refine z4w (L j1 (by omega)) (L i hin) h3 (fun e=>?_)
         have:=(z3v _ _).2 e
         rw [HY.out] at this
         cases this))
        go_wp2_with fail
        go_ret
        exact ⟨⟨_,rfl⟩,Q,HP.out,HH.out,HR.out,HQ7.out,HT7.out⟩
      | true =>
        have HSW:=Lib.hid (zem HQ7.out HLN.out hin (show j1 < n by omega))
        have HU2:=Lib.hid (show DownOk (z4g Q i j1) m j1 from HU.out.swap (by rw [← HLN.out];exact hmn) (by omega) (by omega) (by omega) HMIN.out ((z3v _ _).1 HY.out))
        have HP2:=Lib.hid ((z4p (Q:=Q) (i:=i) (j:=j1) (by rw [← HLN.out];exact hin) (by rw [← HLN.out];omega)).trans HP.out)
        have HR2:=Lib.hid (show ∀ k,m ≤ k → qAt (z4g Q i j1) k = qAt Q0 k from fun k hk=>by
         rw [z2f (by rw [← HLN.out];exact hin) (by rw [← HLN.out];omega),if_neg (by omega),if_neg (by omega)]
         exact HR.out k hk)
        go_wp2_with (refine z1d rfl Tryz.func191 rfl rfl (.tmp 40) "Swap" _ _ rfl _ _ _ rfl (zaa HQ7.out z8e) [.int .i64 i, .int .i64 j1] rfl HSW.out ?_)
        rintro e w8 rfl hq8 ht8
        refine ⟨_,rfl,?_⟩
        have HQ8:=Lib.hid hq8
        have HT8:=Lib.hid (HT7.out.trans ht8)
        clear hq8 ht8 HSW
        go_wp2_with fail
        exact ⟨⟨j1,z4g Q i j1,rfl,HP2.out,HU2.out,HR2.out,by omega,HQ8.out,HT8.out⟩,by simp [intOf];omega⟩
    | true =>
      have HMIN:=Lib.hid (show ∀ c,0 < c → c < m → (c - 1) / 2 = i → ¬ Less (qAt Q c) (qAt Q j2) from fun c hc0 hcm hci=>by
       have hlt:=(z3v _ _).1 HZ.out
       rcases (show c = j1 ∨ c = j2 by omega) with rfl | rfl
       ·exact z5v hlt
       ·exact fun e=>z5v e e)
      obtain ⟨y,hy⟩:∃ y,decide (z1t (qAt Q j2) (qAt Q i) < 0) = y:=⟨_,rfl⟩
      have HLL:=Lib.hid (zge HQ5.out HLN.out hm (show j2 < n by omega) hin)
      rw [hy] at HLL
      have HY:=Shut.mk hy
      clear hy
      go_wp2_with (refine z1d rfl Tryz.func188  rfl rfl (.tmp 35) "Less" _ _ rfl _ _ _ rfl (zaa HQ5.out z8v) [.int .i64 j2, .int .i64 i] rfl HLL.out ?_)
      rintro e w7 rfl hb7
      refine ⟨_,rfl,?_⟩
      have HQ7:=Lib.hid (HQ5.out.below hb7)
      have HT7:=Lib.hid (HT5.out.below hb7)
      clear hb7 HLL HQ5 HT5
      cases y with
      | false =>
        have HH:=Lib.hid (HU.out.stop (fun c hc0 hcm hci=>by
         have h3:=HMIN.out c hc0 hcm hci
         have L:∀ k,k < n → (qAt Q k).length = 32:=fun k hk=>HQ7.out.len32 _ (z81 (by rw [← HLN.out];exact hk))
         refine z4w (L j2 (by omega)) (L i hin) h3 (fun e=>?_)
         have:=(z3v _ _).2 e
         rw [HY.out] at this
         cases this))
        go_wp2_with fail
        go_ret
        exact ⟨⟨_,rfl⟩,Q,HP.out,HH.out,HR.out,HQ7.out,HT7.out⟩
      | true =>
        have HSW:=Lib.hid (zem HQ7.out HLN.out hin (show j2 < n by omega))
        have HU2:=Lib.hid (show DownOk (z4g Q i j2) m j2 from HU.out.swap (by rw [← HLN.out];exact hmn) (by omega) (by omega) (by omega) HMIN.out ((z3v _ _).1 HY.out))
        have HP2:=Lib.hid ((z4p (Q:=Q) (i:=i) (j:=j2) (by rw [← HLN.out];exact hin) (by rw [← HLN.out];omega)).trans HP.out)
        have HR2:=Lib.hid (show ∀ k,m ≤ k → qAt (z4g Q i j2) k = qAt Q0 k from fun k hk=>by
         rw [z2f (by rw [← HLN.out];exact hin) (by rw [← HLN.out];omega),if_neg (by omega),if_neg (by omega)]
         exact HR.out k hk)
        go_wp2_with (refine z1d rfl Tryz.func191 rfl rfl (.tmp 40) "Swap" _ _ rfl _ _ _ rfl (zaa HQ7.out z8e) [.int .i64 i, .int .i64 j2] rfl HSW.out ?_)
        rintro e w8 rfl hq8 ht8
        refine ⟨_,rfl,?_⟩
        have HQ8:=Lib.hid hq8
        have HT8:=Lib.hid (HT7.out.trans ht8)
        clear hq8 ht8 HSW
        go_wp2_with fail
        exact ⟨⟨j2,z4g Q i j2,rfl,HP2.out,HU2.out,HR2.out,by omega,HQ8.out,HT8.out⟩,by simp [intOf];omega⟩
   ·have hj2:¬ (j1:Int) + 1 < (m:Int):=by omega
    have HMIN:=Lib.hid (show ∀ c,0 < c → c < m → (c - 1) / 2 = i → ¬ Less (qAt Q c) (qAt Q j1) from fun c hc0 hcm hci=>by
     obtain rfl:c = j1:=by omega
     exact fun e=>z5v e e)
    have HQ5:=Lib.hid HQ.out
    have HT5:=Lib.hid HT.out
    clear HQ HT
    obtain ⟨y,hy⟩:∃ y,decide (z1t (qAt Q j1) (qAt Q i) < 0) = y:=⟨_,rfl⟩
    have HLL:=Lib.hid (zge HQ5.out HLN.out hm (show j1 < n by omega) hin)
    rw [hy] at HLL
    have HY:=Shut.mk hy
    clear hy
    go_wp2_with (refine z1d rfl Tryz.func188  rfl rfl (.tmp 35) "Less" _ _ rfl _ _ _ rfl (zaa HQ5.out z8v) [.int .i64 j1, .int .i64 i] rfl HLL.out ?_)
    rintro e w7 rfl hb7
    refine ⟨_,rfl,?_⟩
    have HQ7:=Lib.hid (HQ5.out.below hb7)
    have HT7:=Lib.hid (HT5.out.below hb7)
    clear hb7 HLL HQ5 HT5
    cases y with
    | false =>
      have HH:=Lib.hid (HU.out.stop (fun c hc0 hcm hci=>by
       have h3:=HMIN.out c hc0 hcm hci
       have L:∀ k,k < n → (qAt Q k).length = 32:=fun k hk=>HQ7.out.len32 _ (z81 (by rw [← HLN.out];exact hk))
       refine z4w (L j1 (by omega)) (L i hin) h3 (fun e=>?_)
       have:=(z3v _ _).2 e
       rw [HY.out] at this
       cases this))
      go_wp2_with fail
      go_ret
      exact ⟨⟨_,rfl⟩,Q,HP.out,HH.out,HR.out,HQ7.out,HT7.out⟩
    | true =>
      have HSW:=Lib.hid (zem HQ7.out HLN.out hin (show j1 < n by omega))
      have HU2:=Lib.hid (show DownOk (z4g Q i j1) m j1 from HU.out.swap (by rw [← HLN.out];exact hmn) (by omega) (by omega) (by omega) HMIN.out ((z3v _ _).1 HY.out))
      have HP2:=Lib.hid ((z4p (Q:=Q) (i:=i) (j:=j1) (by rw [← HLN.out];exact hin) (by rw [← HLN.out];omega)).trans HP.out)
      have HR2:=Lib.hid (show ∀ k,m ≤ k → qAt (z4g Q i j1) k = qAt Q0 k from fun k hk=>by
       rw [z2f (by rw [← HLN.out];exact hin) (by rw [← HLN.out];omega),if_neg (by omega),if_neg (by omega)]
       exact HR.out k hk)
      go_wp2_with (refine z1d rfl Tryz.func191 rfl rfl (.tmp 40) "Swap" _ _ rfl _ _ _ rfl (zaa HQ7.out z8e) [.int .i64 i, .int .i64 j1] rfl HSW.out ?_)
      rintro e w8 rfl hq8 ht8
      refine ⟨_,rfl,?_⟩
      have HQ8:=Lib.hid hq8
      have HT8:=Lib.hid (HT7.out.trans ht8)
      clear hq8 ht8 HSW
      go_wp2_with fail
      exact ⟨⟨j1,z4g Q i j1,rfl,HP2.out,HU2.out,HR2.out,by omega,HQ8.out,HT8.out⟩,by simp [intOf];omega⟩
  ·have HH:=Lib.hid (HU.out.stop (fun c hc0 hcm hci=>by omega))
   obtain ⟨j1,hj1e⟩:∃ j,j = 2 * i + 1:=⟨_,rfl⟩
   have hj1c:2 * (i:Int) + 1 = (j1:Int):=by omega
   have hj1:(m:Int) ≤ (j1:Int):=by omega
   have hj1b:j1 ≤ 3000000:=by omega
   clear hj1e h1
   go_wp2_with fail
   go_ret
   exact ⟨⟨_,rfl⟩,Q,HP.out,HH.out,HR.out,HQ.out,HT.out⟩
theorem QAt.formB {q:Nat} {v:Value} {Q:List (List Nat)} {w:World} (h:QAt q v Q w) (h0:0 < Q.length):∃ g c,v = .slice (some ⟨g,0,none⟩) Q.length c:=by
 rcases h.row.2 with ⟨_,h1⟩ | ⟨g,cap,cur,h1,_⟩
 ·omega
 ·exact ⟨g,cap,h1⟩
theorem zlh (Q:List (List Nat)) (n:List Nat):(Q ++ [n]).Perm (n :: Q):=List.perm_append_singleton _ _
theorem zm4 {Q:List (List Nat)} (h0:0 < Q.length):Q = Q.dropLast ++ [qAt Q (Q.length - 1)]:=by
 have hne:Q ≠ []:=fun e=>by rw [e] at h0;cases h0
 rw [z8b (by omega),← List.getLast_eq_getElem hne,List.dropLast_concat_getLast hne]
theorem zig {Q:List (List Nat)} {k:Nat} (h:k < Q.length - 1):qAt Q.dropLast k = qAt Q k:=by
 rw [z8b (by rw [List.length_dropLast];exact h),z8b (by omega),List.getElem_dropLast]
theorem zkp (q:Nat) (v:Value) (Q:List (List Nat)) (x:List Nat) (w:World) (h:QAt q v Q w) (hh:HeapN Q Q.length) (hx:IdOk x) (hl:Q.length ≤ 90000) :
 Calls Tryz.prog 100 #[hq q,.iface 25 (.agg (z07 .u8 x).toArray)] w fun e w'=>e = .returned (.tuple #[]) ∧ ∃ v' Q',Q'.Perm (x :: Q) ∧ HeapN Q' Q'.length ∧ QAt q v' Q' w' ∧ Turn (QO q v) (QO q v') w w':=by
 have HP:=Lib.hid (qu_push q v Q x w h hx (by omega))
 have HU:=Lib.hid (hh.push x)
 unfold hq
 clear h hh hx
 go_enter Tryz.func100,Tryz.ntmps100
 go_wp2_with (refine z1d rfl Tryz.func190 rfl rfl (.tmp 4) "Push" _ _ rfl _ _ _ rfl (inv_p q w row_push) [.iface 25 (.agg (z07 .u8 x).toArray)] rfl HP.out ?_)
 rintro e w1 rfl v1 hq1 ht1
 refine ⟨_,rfl,?_⟩
 obtain ⟨g,c,rfl⟩:=hq1.formB (by simp)
 obtain ⟨R,hR⟩:∃ R,Q ++ [x] = R:=⟨_,rfl⟩
 have hln:R.length = Q.length + 1:=by rw [← hR];simp
 rw [hR] at hq1 ht1 HU
 have HPR:=Lib.hid (show R.Perm (x :: Q) from hR ▸ zlh Q x)
 obtain ⟨m,hm⟩:∃ m,R.length = m:=⟨_,rfl⟩
 obtain ⟨k,hk⟩:∃ k,Q.length = k:=⟨_,rfl⟩
 rw [hm,hk] at HU hln
 rw [hm] at hq1 ht1
 have HM:=Lib.hid hm
 have HQ1:=Lib.hid hq1
 have HT1:=Lib.hid ht1
 have hmk:((m:Nat):Int) - 1 = (k:Int):=by omega
 have hm6:m ≤ 100000:=by omega
 clear hq1 ht1 hR hm hk HP
 have HUP:=Lib.hid (dev_up q g m c k R w1 HQ1.out HM.out.symm (by omega) (by omega) HU.out)
 unfold hq at HUP
 clear hln
 go_wp2_with (first
  | (refine z1d rfl Tryz.func80 rfl rfl (.tmp 8) "Len" _ _ rfl _ _ _ rfl (zaa HQ1.out zme) [] rfl (zi4 _ m c w1) ?_; rintro e wx ⟨rfl, hwx⟩; subst wx; refine ⟨_, rfl, ?_⟩)
  | (refine HUP.out.mono ?_;rintro e w3 ⟨rfl,Q',hp,hh,hq,ht⟩))
 have HF:=Lib.hid (And.intro (hp.trans HPR.out) (And.intro hh (And.intro hq (HT1.out.trans ht))))
 have HL:=Lib.hid (hp.length_eq.trans HM.out)
 clear hp hh hq ht
 go_wp2_with fail
 refine bodyPost_end (results_none rfl _ _ _) rfl ?_
 obtain ⟨f1,f2,f3,f4⟩:=HF.out
 exact ⟨rfl,_,Q',f1,by rw [HL.out];exact f2,f3,f4⟩
theorem pop_of (q g c k:Nat) (Q:List (List Nat)) (x:List Nat) (w:World) (h:QAt q (.slice (some ⟨g,0,none⟩) (k + 1) c) Q w) (hl:Q.length = k + 1) (hk:k ≤ 90000) (hx:qAt Q k = x) :
 Calls Tryz.prog 189 #[.pointer (some ⟨q,0,none⟩)] w fun e w'=>e = .returned (.iface 25 (.agg (z07 .u8 x).toArray)) ∧ ∃ v',QAt q v' Q.dropLast w' ∧ Turn (QO q (.slice (some ⟨g,0,none⟩) (k + 1) c)) (QO q v') w w':=by
 have h1:=qu_pop q _ Q w h (by omega) (by omega)
 have e:qAt Q (Q.length - 1) = x:=by rw [hl];exact hx
 rwa [e] at h1
theorem heap_pop (q:Nat) (v:Value) (Q:List (List Nat)) (w:World) (h:QAt q v Q w) (hh:HeapN Q Q.length) (h0:0 < Q.length) (hl:Q.length ≤ 90000) :
 Calls Tryz.prog 81 #[hq q] w fun e w'=>e = .returned (.iface 25 (.agg (z07 .u8 (qAt Q 0)).toArray)) ∧ ∃ v' Q',(qAt Q 0 :: Q').Perm Q ∧ HeapN Q' Q'.length ∧ QAt q v' Q' w' ∧ Turn (QO q v) (QO q v') w w':=by
 obtain ⟨g,c,rfl⟩:=h.formB h0
 have hd:=hh.drop h0
 obtain ⟨m,hm⟩:∃ m,Q.length = m:=⟨_,rfl⟩
 obtain ⟨k,hk⟩:∃ k,m = k + 1:=⟨m - 1,by omega⟩
 subst hk
 rw [hm] at h h0 hl hd
 rw [hm]
 rw [show k + 1 - 1 = k from rfl] at hd
 have HQ:=Lib.hid h
 have HD:=Lib.hid hd
 have HM:=Lib.hid hm
 have HS:=Lib.hid (zem (i:=0) (j:=k) h hm.symm (by omega) (by omega))
 obtain ⟨x,hx⟩:∃ x,qAt Q 0 = x:=⟨_,rfl⟩
 have HX:=Lib.hid (show qAt (z4g Q 0 k) k = x by rw [z2f (by omega) (by omega),if_pos rfl,hx])
 have HPS:=Lib.hid (z4p (Q:=Q) (i:=0) (j:=k) (by omega) (by omega))
 obtain ⟨S,hS⟩:∃ S,z4g Q 0 k = S:=⟨_,rfl⟩
 rw [hS] at HD HS HX HPS
 rw [hx]
 have hki:((k + 1:Nat):Int) - 1 = (k:Int):=by omega
 have hk6:k ≤ 90000:=by omega
 unfold hq
 have hz:((0:Nat):Int) = 0:=rfl
 rw [hz] at HS
 clear h hh hd hm hx hS h0 hl
 go_enter Tryz.func81,Tryz.ntmps81
 go_wp2_with (first
  | (refine z1d rfl Tryz.func80 rfl rfl (.tmp 4) "Len" _ _ rfl _ _ _ rfl (zaa HQ.out zme) [] rfl (zi4 _ (k + 1) c w) ?_; rintro e wx ⟨rfl, hwx⟩; subst wx; refine ⟨_, rfl, ?_⟩)
  | (refine z1d rfl Tryz.func191 rfl rfl (.tmp 7) "Swap" _ _ rfl _ _ _ rfl (zaa HQ.out z8e) [.int .i64 0, .int .i64 k] rfl HS.out ?_))
 rintro e w1 rfl hq1 ht1
 refine ⟨_,rfl,?_⟩
 have HQ1:=Lib.hid hq1
 have HT1:=Lib.hid ht1
 have HLS:=Lib.hid (show k + 1 = S.length by rw [HPS.out.length_eq,HM.out])
 have HDN:=Lib.hid (dev_down q g (k + 1) c k S w1 hq1 HLS.out (by omega) (by omega) HD.out)
 unfold hq at HDN
 clear hq1 ht1 HS HQ HD
 go_wp2_with (first
  | (refine HDN.out.mono ?_; rintro e w2 ⟨⟨r, rfl⟩, Q2, hp2, hh2, hr2, hq2, ht2⟩
     have HL2:=Lib.hid (show Q2.length = k + 1 by rw [hp2.length_eq,← HLS.out])
     have HLAST:=Lib.hid (show qAt Q2 k = x by rw [hr2 k (Nat.le_refl _)];exact HX.out)
     have HP2:=Lib.hid (hp2.trans HPS.out)
     have HH2:=Lib.hid hh2
     have HT2:=Lib.hid (HT1.out.trans ht2)
     have HPOP:=Lib.hid (pop_of q g c k Q2 x w2 hq2 HL2.out hk6 HLAST.out)
     clear hp2 hh2 hr2 hq2 ht2 HQ1 HT1 HDN)
  | (refine z1d rfl Tryz.func189 rfl rfl (.tmp 13) "Pop" _ _ rfl _ _ _ rfl (inv_p q w2 row_pop) [] rfl HPOP.out ?_))
 rintro e w3 rfl v3 hq3 ht3
 refine ⟨_,rfl,?_⟩
 have HF:=Lib.hid (show (x :: Q2.dropLast).Perm Q ∧ HeapN Q2.dropLast Q2.dropLast.length ∧ QAt q v3 Q2.dropLast w3 ∧ Turn (QO q (.slice (some ⟨g,0,none⟩) (k + 1) c)) (QO q v3) w w3 from by
  refine ⟨?_,?_,hq3,HT2.out.trans ht3⟩
  ·have hd:=zm4 (Q:=Q2) (by rw [HL2.out];omega)
   rw [HL2.out,show k + 1 - 1 = k from rfl,HLAST.out] at hd
   refine List.Perm.trans ?_ HP2.out
   conv=>rhs;rw [hd]
   exact (List.perm_append_singleton _ _).symm
  ·rw [List.length_dropLast,HL2.out,show k + 1 - 1 = k from rfl]
   intro j hj0 hjk
   rw [zig (by rw [HL2.out];exact hjk),zig (by rw [HL2.out];omega)]
   exact HH2.out j hj0 hjk)
 clear hq3 ht3 HPOP
 go_wp2_with fail
 go_ret
 exact ⟨rfl,v3,_,HF.out⟩
structure SQ (X:Nat → Prop) (B:Bs) (T:Ents) (s:DagN) (hs:List (List Nat)) (M:Bh) (q:Nat) (v:Value) (Q:List (List Nat)) (w:World):Prop where
 set:SetAt X B T s hs M w
 qu:QAt q v Q w
 apart:∀ b,QO q v b → ¬ SetO B T b
 qx:∀ b,QO q v b → X b
def SQO (B:Bs) (T:Ents) (q:Nat) (v:Value):Nat → Prop:=fun b=>SetO B T b ∨ QO q v b
section
variable {X:Nat → Prop} {B:Bs} {T T':Ents} {s s':DagN} {hs hs':List (List Nat)} {M M':Bh} {q:Nat} {v v':Value} {Q Q':List (List Nat)} {w w':World}
theorem SQ.below (h:SQ X B T s hs M q v Q w) (k:Below w.heap.size w w'):SQ X B T s hs M q v Q w':=⟨h.set.below k,h.qu.below k,h.apart,h.qx⟩
theorem SQ.turnS (h:SQ X B T s hs M q v Q w) (k:SetAt X B T' s' hs' M' w') (t:Turn (SetO B T) (SetO B T') w w'):SQ X B T' s' hs' M' q v Q w' ∧ Turn (SQO B T q v) (SQO B T' q v) w w':=by
 refine ⟨⟨k,h.qu.only t.only h.apart,fun b hb e=>?_,h.qx⟩,⟨t.only.os,t.only.tape,t.only.output,t.only.size,fun i hi hn=>t.only.block i hi (fun e=>hn (.inl e))⟩,fun b hb=>?_⟩
 ·rcases t.own b e with e | e
  ·exact h.apart b hb e
  ·have:=h.qu.lt hb
   omega
 ·rcases hb with hb | hb
  ·exact (t.own b hb).imp .inl id
  ·exact .inl (.inr hb)
theorem SQ.turnQ (h:SQ X B T s hs M q v Q w) (hX:∀ b,w.heap.size ≤ b → X b) (k:QAt q v' Q' w') (t:Turn (QO q v) (QO q v') w w'):SQ X B T s hs M q v' Q' w' ∧ Turn (SQO B T q v) (SQO B T q v') w w':=by
 refine ⟨⟨h.set.only t.only h.qx (fun b hb e=>h.apart b e hb),k,fun b hb e=>?_,fun b hb=>?_⟩,⟨t.only.os,t.only.tape,t.only.output,t.only.size,fun i hi hn=>t.only.block i hi (fun e=>hn (.inr e))⟩,fun b hb=>?_⟩
 ·rcases t.own b hb with h1 | h1
  ·exact h.apart b h1 e
  ·have:=(SetO.x h.set e).2
   omega
 ·rcases t.own b hb with h1 | h1
  ·exact h.qx b h1
  ·exact hX b h1
 ·rcases hb with hb | hb
  ·exact .inl (.inl hb)
  ·exact (t.own b hb).imp .inr id
theorem SQ.lt (h:SQ X B T s hs M q v Q w) {b:Nat} (hb:SQO B T q v b):X b ∧ b < w.heap.size:=by
 rcases hb with hb | hb
 ·exact SetO.x h.set hb
 ·exact ⟨h.qx b hb,h.qu.lt hb⟩
end
theorem DInv.lenB {s:DagN} {hs:List (List Nat)} {M:Bh} {R F:List (List Nat)} (h:DInv s hs M R F) (p:List Nat):(atB M p).length ≤ s.wait.length ∧ R.length ≤ s.wait.length:=by
 have h1:=h.perm.length_eq
 have h2:=(zez h.keys p).length_eq
 simp only [List.length_append,DagN.waits,List.length_map] at h1 h2
 omega
theorem zed {M:Bh} (hd:(M.map (·.1)).Nodup) {n p:List Nat} (h:p ≠ n):atB (z5b M n) p = atB M p:=by
 rw [atB,atB,atE,atE,ze0 hd h]
theorem zkt {M:Bh} (hd:(M.map (·.1)).Nodup) {n p:List Nat} {l:List (List Nat)} (h:n ≠ p):atB (z3c M p l) n = atB M n:=by
 rw [atB,atB,atE,atE,z8m hd _ h]
theorem put_here {β:Type} {L:List (List Nat × β)} (hd:(L.map (·.1)).Nodup) {n:List Nat} {v:β} (h:L.lookup n = some v):z3c L n v = L:=by
 obtain ⟨A,B,h1,h2,_⟩:=z5q hd h
 rw [h2,h1]
end Go.Proofs.YtnbldbbbibpobaaGreatDoor
