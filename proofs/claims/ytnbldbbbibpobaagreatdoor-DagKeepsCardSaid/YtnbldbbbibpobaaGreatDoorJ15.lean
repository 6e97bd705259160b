/-
  Joined: A queue's Push and Pop. Written by dag/gen/gen_qu.py.; container/heap over the queue: up, down, Push, Pop.; container/heap over the queue: Push, Pop.; The developers' set and a queue beside it.; The developers' release.; What admit needs: the row of names that it answers, beside the set and the queue; how many wait.
-/
import Derived.Test.YtnbldbbbibpobaaGreatDoorJ06
import Derived.Test.YtnbldbbbibpobaaGreatDoorJ13
import Derived.Test.YtnbldbbbibpobaaGreatDoorJ14
set_option maxRecDepth 100000
set_option maxHeartbeats 8000000
namespace Go.Proofs.YtnbldbbbibpobaaGreatDoor
open Go.RowKit Go.BigFrame
section
variable {o:Oper} {a:Act} {w:World} {K:Act → World → Prop} {Q:Exit → Act → World → Prop}
theorem zhh (x:Operand) (t u:TypeId) (c:Bool) (ho:o.op = .typeAssert x t u c) (vx r:Value) (hx:a.eval x = vx) (hr:∀ w,(Instr.typeAssert vx t u c).run Tryz.prog w = .ok r w) (h:K (a.put o.dst r) w):OpWp Tryz.prog o a w K Q:=by
 refine ⟨?_⟩
 unfold Oper.wp execOp
 simp only [ho,hx,hr w,Sem.run_bind,Sem.run_pure,Result.andThen_ok]
 exact h
theorem op_lit_q (hg:o.guard = none) (z:Operand) (ho:o.op = .buildSlice 110 1 #[(0,z)]) (y:List Nat) (hy:y.length = 32) (hz:a.eval z = .agg (z06 .u8 y).toArray)
 (h:∀ w',Below w.heap.size w w' → IAt (some ⟨w.heap.size,0,none⟩) [y] w' → K (a.put o.dst (.slice (some ⟨w.heap.size,0,none⟩) 1 1)) w'):OpWp Tryz.prog o a w K Q :=
 z1i (ops:=#[]) hg (z17 hg 110 25 z ho y hz hy Tryz.underlying110 Tryz.infoI32 (fun w' h1 h2=>⟨rfl,h w' h2.out (z4x h1.out)⟩))
theorem zh8 (hg:o.guard = none) (s z:Operand) (ho:o.op = .call { callee:=.builtin .append,args:=#[s,z],argTypes:=#[110,110] }) (v:Value) (L:List (List Nat)) (y:List Nat) (hy:IdOk y) (ad:Addr)
 (hs:a.eval s = v) (hown:OwnI 0 25 v L w) (hz:a.eval z = .slice (some ad) 1 1) (hsrc:IAt (some ad) [y] w) (h63:L.length + 1 ≤ 1000000)
 (h:∀ v' w',OwnI 0 25 v' (L ++ [y]) w' → w.grownBy w' v.ownBlock → (v'.ownBlock = v.ownBlock ∨ v'.ownBlock = some w.heap.size) → K (a.put o.dst v') w'):OpWp Tryz.prog o a w K Q :=
 z1i (ops:=#[]) hg (z0u hg s z 110 25 ho 0 (.agg (z06 .u8 (List.replicate 32 0)).toArray) rfl Tryz.underlying110 Tryz.infoI32 v L [y] (Ids.one hy.1 hy.2) (some ad) 1 1 rfl hs hown hz hsrc (fun h=>by cases h) h63 (Nat.zero_le _)
  (fun v' w' h1 h2 h3=>⟨rfl,h v' w' h1.out h2.out h3.out⟩))
end
theorem za6 (g n c j:Nat) (w:World) (hj:j ≤ n) (hc:n ≤ c):(Instr.sliceAt 110 (.slice (some ⟨g,0,none⟩) n c) none (some (.int .i64 (j:Int))) none).run Tryz.prog w = .ok (.slice (some ⟨g,0,none⟩) j c) w:=by
 go_simp
 intro h
 omega
theorem zc3 (n:List Nat) (w:World):(Instr.typeAssert (.iface 25 (.agg (z06 .u8 n).toArray)) 20 25 false).run Tryz.prog w = .ok (.agg (z06 .u8 n).toArray) w:=by
 unfold Instr.typeAssert
 simp only [Sem.run_bind,run_underlying Tryz.underlying25,Result.andThen_ok,if_true,Bool.false_eq_true,if_false,Sem.run_pure]
theorem qu_push (q0:Nat) (v:Value) (Q:List (List Nat)) (n:List Nat) (w:World) (h:QAt q0 v Q w) (hn:IdOk n) (hl:Q.length ≤ 100000) :
 Calls Tryz.prog 190 #[.pointer (some ⟨q0,0,none⟩),.iface 25 (.agg (z06 .u8 n).toArray)] w fun e w'=>e = .returned (.tuple #[]) ∧ ∃ v',QAt q0 v' (Q ++ [n]) w' ∧ Turn (QO q0 v) (QO q0 v') w w':=by
 have HQ:=Lib.hid h
 have HN:=Lib.hid hn
 have HRW:=Lib.hid h.row
 have HLN:=Lib.hid (show Q.length + 1 ≤ 1000000 by omega)
 have HCF:=Lib.hid (fun (w':World) (k:Only (fun b=>v.ownBlock = some b) w w')=>show w'.cell? ⟨q0,0,none⟩ = some v from by rw [(HQ.out.cell.only k (fun e=>HQ.out.ne e)).at 0];rfl)
 clear h hn hl
 go_enter Tryz.func190,Tryz.ntmps190
 go_upto_region 0 with (fail)
 refine z0f 8 (fun q V w'=>Val q V 0 (.pointer (some ⟨q0,0,none⟩)) ∧ Val q V 1 (.pointer (some ⟨q0,0,none⟩)) ∧ Val q V 2 (.pointer (some ⟨q0,0,none⟩)) ∧ Val q V 3 (v) ∧ Val q V 4 (.iface 25 (.agg (z06 .u8 n).toArray)) ∧ Val q V 5 (.agg (z06 .u8 n).toArray) ∧ Only (fun b=>v.ownBlock = some b) w w' ∧ Chain [6,7] (fun _=>True) (PushI w v Q n) q V w') (fun _=>undef) (by kernel_rfl) (by kernel_rfl) (by kernel_rfl) (by simp only [zC,zD,z0i,Act.put,zS,zA,zB]) ⟨Val.none,Val.none,Val.none,Val.none,Val.none,Val.none,Only.of (Below.refl _ _).drew,Chain.none trivial (fun _=>(Below.refl _ _).drew)⟩ ?_ ?_
 ·simp only [zC,zD,z0i,Nat.zero_add,Nat.reduceAdd,Act.put,zS,zA,zB]
  refine zQc ?_ (zQc ?_ (zQc ?_ (zQc ?_ (zQc ?_ (zQc ?_ (zQc ?_ (zQc ?_ (zQn))))))))
  all_goals (refine zQf rfl ?_;rintro q V wq hr hu ⟨h0,h1,h2,h3,h4,h5,hb,hch⟩ K hK)
  ·exact z0h (.tmp 0) rfl _ rfl (hK _ _ ⟨.same,h1.nd,h2.nd,h3.nd,h4.nd,h5.nd,hb,hch.ne (by decide) (by decide)⟩)
  ·exact z0h (.tmp 0) rfl _ rfl (hK _ _ ⟨h0.nd,.same,h2.nd,h3.nd,h4.nd,h5.nd,hb,hch.ne (by decide) (by decide)⟩)
  ·exact z0m (.tmp 5) rfl ⟨q0,0,none⟩ (h1 (hr { on:=1,ground:=.data } (by simp) rfl)) (hK _ _ ⟨h0.nd,h1.nd,.same,h3.nd,h4.nd,h5.nd,hb,hch.ne (by decide) (by decide)⟩)
  ·exact z0o 110 (.tmp 6) rfl _ _ (h2 (hr { on:=2,ground:=.data } (by simp) rfl)) (HCF.out wq hb) Tryz.isAgg110 (hK _ _ ⟨h0.nd,h1.nd,h2.nd,.same,h4.nd,h5.nd,hb,hch.ne (by decide) (by decide)⟩)
  ·exact z0h (.tmp 1) rfl _ rfl (hK _ _ ⟨h0.nd,h1.nd,h2.nd,h3.nd,.same,h5.nd,hb,hch.ne (by decide) (by decide)⟩)
  ·exact zhh (.tmp 8) _ _ _ rfl _ _ (h4 (hr { on:=4,ground:=.data } (by simp) rfl)) (zc3 n) (hK _ _ ⟨h0.nd,h1.nd,h2.nd,h3.nd,h4.nd,.same,hb,hch.ne (by decide) (by decide)⟩)
  ·have hm:Below w.heap.size w wq:=hch.at 0 (by decide) hu (.inl rfl)
   refine op_lit_q rfl (.tmp 9) rfl n HN.out.1 (h5 (hr { on:=5,ground:=.data } (by simp) rfl)) ?_
   intro w' hb' hsrc
   have hbn:Only (fun b=>v.ownBlock = some b) w w':=hb.below hb'
   have hc6:=hch.step (v:=.slice (some ⟨wq.heap.size,0,none⟩) 1 1) 0 (by decide) (by decide) hu (.inl rfl) trivial ⟨Below.trans hm (hb'.mono hm.size),wq.heap.size,rfl,hsrc⟩
   exact (hK _ _ ⟨h0.nd,h1.nd,h2.nd,h3.nd,h4.nd,h5.nd,hbn,hc6⟩)
  ·obtain ⟨hm,g,hv6,hsrc⟩:PushI w v Q n 1 (V 6) wq:=hch.at 1 (by decide) hu (.inr (hr { on:=6,ground:=.data } (by simp) rfl))
   refine zh8 rfl (.tmp 7) (.tmp 10) rfl v Q n HN.out ⟨g,0,none⟩ (h3 (hr { on:=3,ground:=.data } (by simp) rfl)) (HRW.out.below hm) hv6 hsrc HLN.out ?_
   intro v' w' ho' hg' hd'
   have hbn:Only (fun b=>v.ownBlock = some b) w w':=hb.grown hg' (fun b hb=>.inl hb)
   have hc7:=hch.step (v:=v') 1 (by decide) (by decide) hu (.inr (hr { on:=6,ground:=.data } (by simp) rfl)) trivial ⟨hbn,ho',Moved.of hd' hm.size⟩
   exact (hK _ _ ⟨h0.nd,h1.nd,h2.nd,h3.nd,h4.nd,h5.nd,hbn,hc7⟩)
 rintro q V wq hall ⟨h0,h1,h2,h3,h4,h5,hb,hch⟩
 have v0:=h0 (hall 0 (by decide))
 have v1:=h1 (hall 1 (by decide))
 have v2:=h2 (hall 2 (by decide))
 have v3:=h3 (hall 3 (by decide))
 have v4:=h4 (hall 4 (by decide))
 have v5:=h5 (hall 5 (by decide))
 obtain ⟨u6,v6⟩:∃ v,V 6 = v:=⟨_,rfl⟩
 obtain ⟨u7,v7⟩:∃ v,V 7 = v:=⟨_,rfl⟩
 obtain ⟨hon,hrow,hmv⟩:PushI w v Q n 2 (V 7) wq:=hch.fin (fun p hp=>by match p,hp with | 0,_=>exact hall 6 (by decide) | 1,_=>exact hall 7 (by decide))
 rw [v7] at hrow hmv
 clear hch
 simp only [zC,zD,zE,zF,z0i,Nat.zero_add,Nat.reduceAdd,v0,v1,v2,v3,v4,v5,v6,v7,Act.put,zS,zA,zB]
 clear h0 h1 h2 h3 h4 h5 v0 v1 v2 v3 v4 v5 v6 v7 hall
 obtain ⟨a7,c7,rfl⟩:=hrow.form
 obtain ⟨u7,hu7⟩:∃ u,u = Value.slice a7 (Q ++ [n]).length c7:=⟨_,rfl⟩
 have hln1:(Q ++ [n]).length = Q.length + 1:=by simp
 have hcs:=HQ.out.cell.only hon (fun e=>HQ.out.ne e)
 rw [← hu7] at hrow hmv
 have HCS:=Lib.hid hcs
 have cf:wq.cell? ⟨q0,0,none⟩ = some v:=by rw [hcs.at 0];rfl
 have ff:wq.frozen? ⟨q0,0,none⟩ = false:=hcs.frozen 0
 have hvq:u7.ownBlock ≠ some q0:=z0x hrow hcs (by decide)
 have HF:=Lib.hid (show QAt q0 u7 (Q ++ [n]) (wq.setCell ⟨q0,0,none⟩ u7) from ⟨hcs.set 0 u7,hrow.only (z85 (gs:=q0) (j:=0) (v:=u7)) (fun g hg e=>hvq (e ▸ hg)),HQ.out.ids.append (Ids.one HN.out.1 HN.out.2)⟩)
 have HT:=Lib.hid (show Turn (QO q0 v) (QO q0 u7) w (wq.setCell ⟨q0,0,none⟩ u7) from by
  have k2:=z75 (v:=u7) (gs:=q0) (j:=0) hon
  refine ⟨⟨k2.os,k2.tape,k2.output,k2.size,fun i hi hn=>k2.block i hi (fun e=>hn (e.elim .inr .inl))⟩,?_⟩
  rintro b (hb | hb)
  ·exact .inl (.inl hb)
  ·exact (hmv b hb).imp .inr id)
 rw [hu7,hln1] at HF HT
 clear hcs hon hrow hmv hvq hb hu7 hln1
 go_wp2_with fail
 refine bodyPost_end (results_none rfl _ _ _) rfl ?_
 exact ⟨rfl,_,HF.out,HT.out⟩
theorem qu_pop (q0:Nat) (v:Value) (Q:List (List Nat)) (w:World) (h:QAt q0 v Q w) (hl:Q.length ≤ 100000) (h0:0 < Q.length) :
 Calls Tryz.prog 189 #[.pointer (some ⟨q0,0,none⟩)] w fun e w'=>e = .returned (.iface 25 (.agg (z06 .u8 (qAt Q (Q.length - 1))).toArray)) ∧ ∃ v',QAt q0 v' Q.dropLast w' ∧ Turn (QO q0 v) (QO q0 v') w w':=by
 obtain ⟨ao,c,rfl⟩:=h.form
 have hat:=h.row.at h.ids
 obtain ⟨g,og,rfl,hbl⟩:=hat.some h0
 have hg1:=hat.get (i:=Q.length - 1) (by omega)
 have i1:=Ids.getD h.ids (i:=Q.length - 1) (by omega)
 have hrow:=h.row
 obtain ⟨rfl⟩:og = 0:=by
  rcases hrow.2 with ⟨h1,_⟩ | ⟨g',cap,cur,h1,_⟩
  ·cases h1
  ·cases h1;rfl
 rw [Nat.zero_add] at hg1
 have hcut:=hrow.cutLast h.ids rfl
 obtain ⟨n,hn⟩:∃ n,Q.length = n:=⟨_,rfl⟩
 have HNQ:=Shut.mk hn
 obtain ⟨x,hx⟩:∃ x,Q.getD (Q.length - 1) [] = x:=⟨_,rfl⟩
 rw [show qAt Q (Q.length - 1) = x from hx]
 rw [hx] at hg1 i1
 rw [hn] at hg1 hcut hl h0 h hrow
 have HQ:=Lib.hid h
 have HX:=Lib.hid hg1
 have HXI:=Lib.hid i1
 have HCUT:=Lib.hid hcut
 have HS1:=Lib.hid (show (Tryz.prog.info? 25).map (·.size) = some x.length by rw [i1.1];exact Tryz.sizeI)
 have HL2:=Lib.hid (show (List.replicate 32 0).length = x.length by rw [i1.1];rfl)
 have hc0:=h.at0
 have hqlt:=h.cell.lt
 obtain ⟨m,hm⟩:∃ m,n = m + 1:=⟨n - 1,by omega⟩
 subst hm
 rw [show m + 1 - 1 = m from rfl] at HX HCUT
 rw [hn]
 have hmi:((m + 1:Nat):Int) - 1 = (m:Int):=by omega
 have hml:(m:Int) < ((m + 1:Nat):Int):=by omega
 have HSL:=Lib.hid (fun w'=>za6 g (m + 1) c m w' (Nat.le_succ m) (by
  rcases HQ.out.row.2 with ⟨h1,_⟩ | ⟨g',cap,cur,h1,_,_,h2,_⟩
  ·cases h1
  ·injection h1 with _ _ h3
   subst h3
   rw [HNQ.out] at h2
   exact h2))
 clear hat h hrow hcut hg1 i1 hx hn h0 hbl
 go_enter Tryz.func189,Tryz.ntmps189
 go_wp2_with (first
  | (refine z0b rfl 25 _ rfl g (m * 32) x _ rfl HX.out Tryz.underlying25 rfl HS1.out ?_)
  | (refine z04 rfl 25 _ _ rfl rfl w.heap.size .u8 (List.replicate 32 0) x 25 rfl rfl (heap_alloc_new w _) HS1.out HL2.out ?_))
 intro w2 hc' hb'
 have HB2:=Lib.hid (show Below w.heap.size w w2 from But.toBelow ((Below.refl _ _).alloc (Nat.le_refl _) _) hb'.out (Nat.le_refl _) (by rw [World.size_alloc];exact Nat.le_succ _))
 obtain ⟨g4,hg4⟩:∃ g,w.heap.size = g:=⟨_,rfl⟩
 have HC4:=Lib.hid (show Blk g4 25 .u8 x w2 from hg4 ▸ hc'.out)
 have HG4:=Lib.hid hg4
 rw [hg4]
 have HQ2:=Lib.hid (HQ.out.below HB2.out)
 have HCUT2:=Lib.hid (HCUT.out.below HB2.out)
 have cf:w2.cell? ⟨q0,0,none⟩ = some (.slice (some ⟨g,0,none⟩) (m + 1) c):=HQ2.out.at0
 have ff:w2.frozen? ⟨q0,0,none⟩ = false:=HQ2.out.cell.frozen 0
 have hsl:=HSL.out
 clear hc' hb' hg4 hc0 HX
 go_upto_region 4 with (fail)
 obtain ⟨w3,hw3⟩:∃ x,x = w2.setCell ⟨q0,0,none⟩ (.slice (some ⟨g,0,none⟩) m c):=⟨_,rfl⟩
 have hgq:(Value.slice (some ⟨g,0,none⟩) (m + 1) c).ownBlock ≠ some q0:=HQ2.out.ne
 have hor:Only (fun b=>b = q0) w2 w3:=hw3 ▸ z85
 have HF:=Lib.hid (show QAt q0 (.slice (some ⟨g,0,none⟩) m c) Q.dropLast w3 from ⟨hw3 ▸ HQ2.out.cell.set 0 _,HCUT2.out.only hor (fun b hb e=>hgq (by rw [← e];exact hb)),fun x hx=>HQ.out.ids x (List.dropLast_subset _ hx)⟩)
 have HT:=Lib.hid (show Turn (QO q0 (.slice (some ⟨g,0,none⟩) (m + 1) c)) (QO q0 (.slice (some ⟨g,0,none⟩) m c)) w w3 from by
  refine (Turn.of HB2.out).trans ⟨⟨hor.os,hor.tape,hor.output,hor.size,fun i hi hn=>hor.block i hi (fun e=>hn (.inl e))⟩,fun b hb=>.inl hb⟩)
 have HC43:=Lib.hid (HC4.out.only hor (fun e=>by have:=HG4.out;omega))
 rw [← hw3]
 clear hw3 hor hgq cf ff hsl
 go_wp2_with (refine z03 rfl 25 (.tmp 4) rfl g4 .u8 x 25 _ rfl (HC43.out) Tryz.underlying25 rfl HS1.out ?_)
 go_ret
 exact ⟨rfl,_,HF.out,HT.out⟩
def hq (q:Nat):Value:=.iface 109 (.pointer (some ⟨q,0,none⟩))
theorem z8v {q:Nat} {v:Value} {Q:List (List Nat)} {w:World} (h:QAt q v Q w) {name:String} {f:FuncId} (hr:z42 Tryz.prog 109 name = some ([],some (f,false))) (k:Nat):(method (k + 1) 109 (.pointer (some ⟨q,0,none⟩)) name).run Tryz.prog w = .ok (f,v) w :=
 zc9 k 110 hr Tryz.underlying109 _ _ (zgp h.at0)
theorem inv_p (q:Nat) (w:World) {name:String} {f:FuncId} (hr:z42 Tryz.prog 109 name = some ([],some (f,true))) (k:Nat):(method (k + 1) 109 (.pointer (some ⟨q,0,none⟩)) name).run Tryz.prog w = .ok (f,.pointer (some ⟨q,0,none⟩)) w :=
 zcj k 110 hr Tryz.underlying109 _
theorem zcm {q g n c i j:Nat} {Q:List (List Nat)} {w:World} (h:QAt q (.slice (some ⟨g,0,none⟩) n c) Q w) (hn:n = Q.length) (hi:i < n) (hj:j < n) :
 Calls Tryz.prog 191 #[.slice (some ⟨g,0,none⟩) n c,.int .i64 i,.int .i64 j] w fun e w'=>e = .returned (.tuple #[]) ∧ QAt q (.slice (some ⟨g,0,none⟩) n c) (z3q Q i j) w' ∧ Turn (QO q (.slice (some ⟨g,0,none⟩) n c)) (QO q (.slice (some ⟨g,0,none⟩) n c)) w w':=by
 have hne:=h.ne
 refine (qu_swap g n c i j Q w h.row h.ids hn hi hj).mono ?_
 rintro e w' ⟨rfl,h1,h2⟩
 refine ⟨rfl,⟨h.cell.only h2 (fun e=>hne (by rw [e];rfl)),h1,fun x hx=>h.ids x ((z3t (by omega) (by omega)).mem_iff.1 hx)⟩,⟨h2.os,h2.tape,h2.output,h2.size,fun k hk hn=>h2.block k hk (fun e=>hn (.inr (by rw [e];rfl)))⟩,fun b hb=>.inl hb⟩
theorem zcs {q g n c i j:Nat} {Q:List (List Nat)} {w:World} (h:QAt q (.slice (some ⟨g,0,none⟩) n c) Q w) (hn:n = Q.length) (hm:n ≤ 1000000) (hi:i < n) (hj:j < n) :
 Calls Tryz.prog 188 #[.slice (some ⟨g,0,none⟩) n c,.int .i64 i,.int .i64 j] w fun e w'=>e = .returned (.bool (decide (z1s (qAt Q i) (qAt Q j) < 0))) ∧ Below w.heap.size w w' :=
 qu_less g n c i j Q w h.row h.ids hn.symm hm hi hj
theorem z35 (a b:List Nat):decide (z1s a b < 0) = true ↔ Less a b:=by
 rw [decide_eq_true_iff,Less]
 rcases z4s a b with h | h | h <;> rw [h] <;> decide
theorem dev_up (q g n c j0:Nat) (Q0:List (List Nat)) (w:World) (h:QAt q (.slice (some ⟨g,0,none⟩) n c) Q0 w) (hn:n = Q0.length) (hm:n ≤ 1000000) (hj0:j0 < n) (hu:UpOk Q0 n j0) :
 Calls Tryz.prog 131 #[hq q,.int .i64 j0] w fun e w'=>e = .returned (.tuple #[]) ∧ ∃ Q',Q'.Perm Q0 ∧ HeapN Q' n ∧ QAt q (.slice (some ⟨g,0,none⟩) n c) Q' w' ∧ Turn (QO q (.slice (some ⟨g,0,none⟩) n c)) (QO q (.slice (some ⟨g,0,none⟩) n c)) w w':=by
 unfold hq
 have HN0:=Lib.hid hn
 go_enter Tryz.func131,Tryz.ntmps131
 go_wp2_with fail
 go_loopw [1] (fun i wr=>∃ (j:Nat) (Q:List (List Nat)),j < n ∧ i = .int .i64 j ∧ Q.Perm Q0 ∧ UpOk Q n j ∧ QAt q (.slice (some ⟨g,0,none⟩) n c) Q wr ∧ Turn (QO q (.slice (some ⟨g,0,none⟩) n c)) (QO q (.slice (some ⟨g,0,none⟩) n c)) w wr) (fun i _=>(intOf i).toNat)
 case atStart=>exact ⟨j0,Q0,hj0,rfl,List.Perm.refl _,hu,h,Turn.refl _ _⟩
 case round =>
  clear h hu hj0
  obtain ⟨j,Q,hj,rfl,hp,hu,hq,ht⟩:=hrel
  have HP:=Lib.hid hp
  have HU:=Lib.hid hu
  have HQ:=Lib.hid hq
  have HT:=Lib.hid ht
  have HLN:=Lib.hid (show n = Q.length by rw [hp.length_eq];exact hn)
  clear hp hu hq ht hn
  by_cases h0:j = 0
  ·subst h0
   have HH:=Lib.hid (HU.out.stop (.inl rfl))
   go_wp2_with fail
   refine bodyPost_end (results_none rfl _ _ _) rfl ?_
   exact ⟨rfl,Q,HP.out,HH.out,HQ.out,HT.out⟩
  ·obtain ⟨i,hi⟩:∃ i,(j - 1) / 2 = i:=⟨_,rfl⟩
   have HI:=Shut.mk hi
   have hij:i < j:=by omega
   have hdiv:((j:Int) - 1).tdiv 2 = (i:Int):=by
    rw [Int.tdiv_eq_ediv_of_nonneg (by omega)]
    omega
   have hne:((i:Int) == (j:Int)) = false:=by simp;omega
   obtain ⟨z,hz⟩:∃ z,decide (z1s (qAt Q j) (qAt Q i) < 0) = z:=⟨_,rfl⟩
   have HL:=Lib.hid (zcs HQ.out HLN.out hm hj (show i < n by omega))
   rw [hz] at HL
   have HZ:=Shut.mk hz
   clear hz hi
   go_upto_region 1 with (fail)
   go_wp2_with (refine z4e (by rfl) Tryz.func188  rfl rfl (.tmp 12) "Less" _ _ rfl _ _ _ rfl (z8v HQ.out z7u) [.int .i64 j, .int .i64 i] rfl HL.out ?_)
   rintro e w5 rfl hb5
   refine ⟨_,rfl,?_⟩
   have HQ5:=Lib.hid (HQ.out.below hb5)
   have HT5:=Lib.hid (HT.out.below hb5)
   clear hb5 HL HQ HT
   cases z with
   | false =>
     have HH:=Lib.hid (HU.out.stop (.inr (by
      rw [HI.out]
      intro e
      have:=(z35 _ _).2 e
      rw [HZ.out] at this
      cases this)))
     go_wp2_with fail
     refine bodyPost_end (results_none rfl _ _ _) rfl ?_
     exact ⟨rfl,Q,HP.out,HH.out,HQ5.out,HT5.out⟩
   | true =>
     have HSW:=Lib.hid (zcm HQ5.out HLN.out (show i < n by omega) hj)
     have HU2:=Lib.hid (show UpOk (z3q Q i j) n i from by
      have:=HU.out.swap HQ5.out.len32 (by rw [HLN.out];exact Nat.le_refl _) (by omega) hj (by rw [HI.out];exact (z35 _ _).1 HZ.out)
      rwa [HI.out] at this)
     have HP2:=Lib.hid ((z3t (Q:=Q) (i:=i) (j:=j) (by rw [← HLN.out];omega) (by rw [← HLN.out];exact hj)).trans HP.out)
     go_wp2_with (refine z1a rfl Tryz.func191 rfl rfl (.tmp 18) "Swap" _ _ rfl _ _ _ rfl (z8v HQ5.out z7v) [.int .i64 i, .int .i64 j] rfl HSW.out ?_)
     rintro e w6 rfl hq6 ht6
     refine ⟨_,rfl,?_⟩
     have HQ6:=Lib.hid hq6
     have HT6:=Lib.hid (HT5.out.trans ht6)
     clear hq6 ht6 HSW
     go_wp2_with fail
     exact ⟨⟨i,z3q Q i j,by omega,rfl,HP2.out,HU2.out,HQ6.out,HT6.out⟩,by simp [intOf];omega⟩
theorem dev_down (q g n c m:Nat) (Q0:List (List Nat)) (w:World) (h:QAt q (.slice (some ⟨g,0,none⟩) n c) Q0 w) (hn:n = Q0.length) (hm:n ≤ 1000000) (hmn:m ≤ n) (hu:DownOk Q0 m 0) :
 Calls Tryz.prog 101 #[hq q,.int .i64 0,.int .i64 m] w fun e w'=>(∃ v,e = .returned v) ∧ ∃ Q',Q'.Perm Q0 ∧ HeapN Q' m ∧ (∀ k,m ≤ k → qAt Q' k = qAt Q0 k) ∧ QAt q (.slice (some ⟨g,0,none⟩) n c) Q' w' ∧ Turn (QO q (.slice (some ⟨g,0,none⟩) n c)) (QO q (.slice (some ⟨g,0,none⟩) n c)) w w':=by
 unfold hq
 have HN0:=Lib.hid hn
 go_enter Tryz.func101,Tryz.ntmps101
 go_wp2_with fail
 go_loopw [7] (fun i wr=>∃ (j:Nat) (Q:List (List Nat)),i = .int .i64 j ∧ Q.Perm Q0 ∧ DownOk Q m j ∧ (∀ k,m ≤ k → qAt Q k = qAt Q0 k) ∧ j ≤ n ∧ QAt q (.slice (some ⟨g,0,none⟩) n c) Q wr ∧ Turn (QO q (.slice (some ⟨g,0,none⟩) n c)) (QO q (.slice (some ⟨g,0,none⟩) n c)) w wr) (fun i _=>n - (intOf i).toNat)
 case atStart=>exact ⟨0,Q0,rfl,List.Perm.refl _,hu,fun _ _=>rfl,Nat.zero_le _,h,Turn.refl _ _⟩
 case round =>
  clear h hu
  obtain ⟨i,Q,rfl,hp,hu,hr,hjn,hq,ht⟩:=hrel
  have HP:=Lib.hid hp
  have HU:=Lib.hid hu
  have HR:=Lib.hid hr
  have HQ:=Lib.hid hq
  have HT:=Lib.hid ht
  have HLN:=Lib.hid (show n = Q.length by rw [hp.length_eq];exact hn)
  clear hp hu hq ht hr hn
  by_cases h1:2 * i + 1 < m
  ·have hin:i < n:=by omega
   obtain ⟨j1,hj1e⟩:∃ j,j = 2 * i + 1:=⟨_,rfl⟩
   have hj1c:2 * (i:Int) + 1 = (j1:Int):=by omega
   have hj1:¬ (m:Int) ≤ (j1:Int):=by omega
   have hj1p:¬ (j1:Int) < 0:=by omega
   have hm1:j1 < m:=by omega
   clear hj1e h1
   by_cases h2:j1 + 1 < m
   ·obtain ⟨j2,hj2e⟩:∃ j,j = j1 + 1:=⟨_,rfl⟩
    have hj2c:(j1:Int) + 1 = (j2:Int):=by omega
    have hj2:(j2:Int) < (m:Int):=by omega
    clear hj2e h2
    obtain ⟨z,hz⟩:∃ z,decide (z1s (qAt Q j2) (qAt Q j1) < 0) = z:=⟨_,rfl⟩
    have HL:=Lib.hid (zcs HQ.out HLN.out hm (show j2 < n by omega) (show j1 < n by omega))
    rw [hz] at HL
    have HZ:=Shut.mk hz
    clear hz
    go_wp2_with (refine z4e (by rfl) Tryz.func188  rfl rfl (.tmp 29) "Less" _ _ rfl _ _ _ rfl (z8v HQ.out z7u) [.int .i64 j2, .int .i64 j1] rfl HL.out ?_)
    rintro e w5 rfl hb5
    refine ⟨_,rfl,?_⟩
    have HQ5:=Lib.hid (HQ.out.below hb5)
    have HT5:=Lib.hid (HT.out.below hb5)
    clear hb5 HL HQ HT
    cases z with
    | false =>
      have HMIN:=Lib.hid (show ∀ c,0 < c → c < m → (c - 1) / 2 = i → ¬ Less (qAt Q c) (qAt Q j1) from fun c hc0 hcm hci=>by
       rcases (show c = j1 ∨ c = j2 by omega) with rfl | rfl
       ·exact fun e=>z4t e e
       ·intro e
        have:=(z35 _ _).2 e
        rw [HZ.out] at this
        cases this)
      obtain ⟨y,hy⟩:∃ y,decide (z1s (qAt Q j1) (qAt Q i) < 0) = y:=⟨_,rfl⟩
      have HLL:=Lib.hid (zcs HQ5.out HLN.out hm (show j1 < n by omega) hin)
      rw [hy] at HLL
      have HY:=Shut.mk hy
      clear hy
      go_wp2_with (refine z1a rfl Tryz.func188  rfl rfl (.tmp 35) "Less" _ _ rfl _ _ _ rfl (z8v HQ5.out z7u) [.int .i64 j1, .int .i64 i] rfl HLL.out ?_)
      rintro e w7 rfl hb7
      refine ⟨_,rfl,?_⟩
      have HQ7:=Lib.hid (HQ5.out.below hb7)
      have HT7:=Lib.hid (HT5.out.below hb7)
      clear hb7 HLL HQ5 HT5
      cases y with
      | false =>
        have HH:=Lib.hid (HU.out.stop (fun c hc0 hcm hci=>by
         have h3:=HMIN.out c hc0 hcm hci
         have L:∀ k,k < n → (qAt Q k).length = 32:=fun k hk=>HQ7.out.len32 _ (z6u (by rw [← HLN.out];exact hk))
         refine z41 (L j1 (by omega)) (L i hin) h3 (fun e=>?_)
         have:=(z35 _ _).2 e
         rw [HY.out] at this
         cases this))
        go_wp2_with fail
        go_ret
        exact ⟨⟨_,rfl⟩,Q,HP.out,HH.out,HR.out,HQ7.out,HT7.out⟩
      | true =>
        have HSW:=Lib.hid (zcm HQ7.out HLN.out hin (show j1 < n by omega))
        have HU2:=Lib.hid (show DownOk (z3q Q i j1) m j1 from HU.out.swap (by rw [← HLN.out];exact hmn) (by omega) (by omega) (by omega) HMIN.out ((z35 _ _).1 HY.out))
        have HP2:=Lib.hid ((z3t (Q:=Q) (i:=i) (j:=j1) (by rw [← HLN.out];exact hin) (by rw [← HLN.out];omega)).trans HP.out)
        have HR2:=Lib.hid (show ∀ k,m ≤ k → qAt (z3q Q i j1) k = qAt Q0 k from fun k hk=>by
         rw [z23 (by rw [← HLN.out];exact hin) (by rw [← HLN.out];omega),if_neg (by omega),if_neg (by omega)]
         exact HR.out k hk)
        go_wp2_with (refine z1a rfl Tryz.func191 rfl rfl (.tmp 40) "Swap" _ _ rfl _ _ _ rfl (z8v HQ7.out z7v) [.int .i64 i, .int .i64 j1] rfl HSW.out ?_)
        rintro e w8 rfl hq8 ht8
        refine ⟨_,rfl,?_⟩
        have HQ8:=Lib.hid hq8
        have HT8:=Lib.hid (HT7.out.trans ht8)
        clear hq8 ht8 HSW
        go_wp2_with fail
        exact ⟨⟨j1,z3q Q i j1,rfl,HP2.out,HU2.out,HR2.out,by omega,HQ8.out,HT8.out⟩,by simp [intOf];omega⟩
    | true =>
      have HMIN:=Lib.hid (show ∀ c,0 < c → c < m → (c - 1) / 2 = i → ¬ Less (qAt Q c) (qAt Q j2) from fun c hc0 hcm hci=>by
       have hlt:=(z35 _ _).1 HZ.out
       rcases (show c = j1 ∨ c = j2 by omega) with rfl | rfl
       ·exact z4t hlt
       ·exact fun e=>z4t e e)
      obtain ⟨y,hy⟩:∃ y,decide (z1s (qAt Q j2) (qAt Q i) < 0) = y:=⟨_,rfl⟩
      have HLL:=Lib.hid (zcs HQ5.out HLN.out hm (show j2 < n by omega) hin)
      rw [hy] at HLL
      have HY:=Shut.mk hy
      clear hy
      go_wp2_with (refine z1a rfl Tryz.func188  rfl rfl (.tmp 35) "Less" _ _ rfl _ _ _ rfl (z8v HQ5.out z7u) [.int .i64 j2, .int .i64 i] rfl HLL.out ?_)
      rintro e w7 rfl hb7
      refine ⟨_,rfl,?_⟩
      have HQ7:=Lib.hid (HQ5.out.below hb7)
      have HT7:=Lib.hid (HT5.out.below hb7)
      clear hb7 HLL HQ5 HT5
      cases y with
      | false =>
        have HH:=Lib.hid (HU.out.stop (fun c hc0 hcm hci=>by
         have h3:=HMIN.out c hc0 hcm hci
         have L:∀ k,k < n → (qAt Q k).length = 32:=fun k hk=>HQ7.out.len32 _ (z6u (by rw [← HLN.out];exact hk))
         refine z41 (L j2 (by omega)) (L i hin) h3 (fun e=>?_)
         have:=(z35 _ _).2 e
         rw [HY.out] at this
         cases this))
        go_wp2_with fail
        go_ret
        exact ⟨⟨_,rfl⟩,Q,HP.out,HH.out,HR.out,HQ7.out,HT7.out⟩
      | true =>
        have HSW:=Lib.hid (zcm HQ7.out HLN.out hin (show j2 < n by omega))
        have HU2:=Lib.hid (show DownOk (z3q Q i j2) m j2 from HU.out.swap (by rw [← HLN.out];exact hmn) (by omega) (by omega) (by omega) HMIN.out ((z35 _ _).1 HY.out))
        have HP2:=Lib.hid ((z3t (Q:=Q) (i:=i) (j:=j2) (by rw [← HLN.out];exact hin) (by rw [← HLN.out];omega)).trans HP.out)
        have HR2:=Lib.hid (show ∀ k,m ≤ k → qAt (z3q Q i j2) k = qAt Q0 k from fun k hk=>by
         rw [z23 (by rw [← HLN.out];exact hin) (by rw [← HLN.out];omega),if_neg (by omega),if_neg (by omega)]
         exact HR.out k hk)
        go_wp2_with (refine z1a rfl Tryz.func191 rfl rfl (.tmp 40) "Swap" _ _ rfl _ _ _ rfl (z8v HQ7.out z7v) [.int .i64 i, .int .i64 j2] rfl HSW.out ?_)
        rintro e w8 rfl hq8 ht8
        refine ⟨_,rfl,?_⟩
        have HQ8:=Lib.hid hq8
        have HT8:=Lib.hid (HT7.out.trans ht8)
        clear hq8 ht8 HSW
        go_wp2_with fail
        exact ⟨⟨j2,z3q Q i j2,rfl,HP2.out,HU2.out,HR2.out,by omega,HQ8.out,HT8.out⟩,by simp [intOf];omega⟩
   ·have hj2:¬ (j1:Int) + 1 < (m:Int):=by omega
    have HMIN:=Lib.hid (show ∀ c,0 < c → c < m → (c - 1) / 2 = i → ¬ Less (qAt Q c) (qAt Q j1) from fun c hc0 hcm hci=>by
     obtain rfl:c = j1:=by omega
     exact fun e=>z4t e e)
    have HQ5:=Lib.hid HQ.out
    have HT5:=Lib.hid HT.out
    clear HQ HT
    obtain ⟨y,hy⟩:∃ y,decide (z1s (qAt Q j1) (qAt Q i) < 0) = y:=⟨_,rfl⟩
    have HLL:=Lib.hid (zcs HQ5.out HLN.out hm (show j1 < n by omega) hin)
    rw [hy] at HLL
    have HY:=Shut.mk hy
    clear hy
    go_wp2_with (refine z1a rfl Tryz.func188  rfl rfl (.tmp 35) "Less" _ _ rfl _ _ _ rfl (z8v HQ5.out z7u) [.int .i64 j1, .int .i64 i] rfl HLL.out ?_)
    rintro e w7 rfl hb7
    refine ⟨_,rfl,?_⟩
    have HQ7:=Lib.hid (HQ5.out.below hb7)
    have HT7:=Lib.hid (HT5.out.below hb7)
    clear hb7 HLL HQ5 HT5
    cases y with
    | false =>
      have HH:=Lib.hid (HU.out.stop (fun c hc0 hcm hci=>by
       have h3:=HMIN.out c hc0 hcm hci
       have L:∀ k,k < n → (qAt Q k).length = 32:=fun k hk=>HQ7.out.len32 _ (z6u (by rw [← HLN.out];exact hk))
       refine z41 (L j1 (by omega)) (L i hin) h3 (fun e=>?_)
       have:=(z35 _ _).2 e
       rw [HY.out] at this
       cases this))
      go_wp2_with fail
      go_ret
      exact ⟨⟨_,rfl⟩,Q,HP.out,HH.out,HR.out,HQ7.out,HT7.out⟩
    | true =>
      have HSW:=Lib.hid (zcm HQ7.out HLN.out hin (show j1 < n by omega))
      have HU2:=Lib.hid (show DownOk (z3q Q i j1) m j1 from HU.out.swap (by rw [← HLN.out];exact hmn) (by omega) (by omega) (by omega) HMIN.out ((z35 _ _).1 HY.out))
      have HP2:=Lib.hid ((z3t (Q:=Q) (i:=i) (j:=j1) (by rw [← HLN.out];exact hin) (by rw [← HLN.out];omega)).trans HP.out)
      have HR2:=Lib.hid (show ∀ k,m ≤ k → qAt (z3q Q i j1) k = qAt Q0 k from fun k hk=>by
       rw [z23 (by rw [← HLN.out];exact hin) (by rw [← HLN.out];omega),if_neg (by omega),if_neg (by omega)]
       exact HR.out k hk)
      go_wp2_with (refine z1a rfl Tryz.func191 rfl rfl (.tmp 40) "Swap" _ _ rfl _ _ _ rfl (z8v HQ7.out z7v) [.int .i64 i, .int .i64 j1] rfl HSW.out ?_)
      rintro e w8 rfl hq8 ht8
      refine ⟨_,rfl,?_⟩
      have HQ8:=Lib.hid hq8
      have HT8:=Lib.hid (HT7.out.trans ht8)
      clear hq8 ht8 HSW
      go_wp2_with fail
      exact ⟨⟨j1,z3q Q i j1,rfl,HP2.out,HU2.out,HR2.out,by omega,HQ8.out,HT8.out⟩,by simp [intOf];omega⟩
  ·have HH:=Lib.hid (HU.out.stop (fun c hc0 hcm hci=>by omega))
   obtain ⟨j1,hj1e⟩:∃ j,j = 2 * i + 1:=⟨_,rfl⟩
   have hj1c:2 * (i:Int) + 1 = (j1:Int):=by omega
   have hj1:(m:Int) ≤ (j1:Int):=by omega
   have hj1b:j1 ≤ 3000000:=by omega
   clear hj1e h1
   go_wp2_with fail
   go_ret
   exact ⟨⟨_,rfl⟩,Q,HP.out,HH.out,HR.out,HQ.out,HT.out⟩
theorem QAt.formB {q:Nat} {v:Value} {Q:List (List Nat)} {w:World} (h:QAt q v Q w) (h0:0 < Q.length):∃ g c,v = .slice (some ⟨g,0,none⟩) Q.length c:=by
 rcases h.row.2 with ⟨_,h1⟩ | ⟨g,cap,cur,h1,_⟩
 ·omega
 ·exact ⟨g,cap,h1⟩
theorem zhv (Q:List (List Nat)) (n:List Nat):(Q ++ [n]).Perm (n :: Q):=List.perm_append_singleton _ _
theorem zhp {Q:List (List Nat)} (h0:0 < Q.length):Q = Q.dropLast ++ [qAt Q (Q.length - 1)]:=by
 have hne:Q ≠ []:=fun e=>by rw [e] at h0;cases h0
 rw [z6o (by omega),← List.getLast_eq_getElem hne,List.dropLast_concat_getLast hne]
theorem zfc {Q:List (List Nat)} {k:Nat} (h:k < Q.length - 1):qAt Q.dropLast k = qAt Q k:=by
 rw [z6o (by rw [List.length_dropLast];exact h),z6o (by omega),List.getElem_dropLast]
theorem zh1 (q:Nat) (v:Value) (Q:List (List Nat)) (x:List Nat) (w:World) (h:QAt q v Q w) (hh:HeapN Q Q.length) (hx:IdOk x) (hl:Q.length ≤ 90000) :
 Calls Tryz.prog 100 #[hq q,.iface 25 (.agg (z06 .u8 x).toArray)] w fun e w'=>e = .returned (.tuple #[]) ∧ ∃ v' Q',Q'.Perm (x :: Q) ∧ HeapN Q' Q'.length ∧ QAt q v' Q' w' ∧ Turn (QO q v) (QO q v') w w':=by
 have HP:=Lib.hid (qu_push q v Q x w h hx (by omega))
 have HU:=Lib.hid (hh.push x)
 unfold hq
 clear h hh hx
 go_enter Tryz.func100,Tryz.ntmps100
 go_wp2_with (refine z1a rfl Tryz.func190 rfl rfl (.tmp 4) "Push" _ _ rfl _ _ _ rfl (inv_p q w row_push) [.iface 25 (.agg (z06 .u8 x).toArray)] rfl HP.out ?_)
 rintro e w1 rfl v1 hq1 ht1
 refine ⟨_,rfl,?_⟩
 obtain ⟨g,c,rfl⟩:=hq1.formB (by simp)
 obtain ⟨R,hR⟩:∃ R,Q ++ [x] = R:=⟨_,rfl⟩
 have hln:R.length = Q.length + 1:=by rw [← hR];simp
 rw [hR] at hq1 ht1 HU
 have HPR:=Lib.hid (show R.Perm (x :: Q) from hR ▸ zhv Q x)
 obtain ⟨m,hm⟩:∃ m,R.length = m:=⟨_,rfl⟩
 obtain ⟨k,hk⟩:∃ k,Q.length = k:=⟨_,rfl⟩
 rw [hm,hk] at HU hln
 rw [hm] at hq1 ht1
 have HM:=Lib.hid hm
 have HQ1:=Lib.hid hq1
 have HT1:=Lib.hid ht1
 have hmk:((m:Nat):Int) - 1 = (k:Int):=by omega
 have hm6:m ≤ 100000:=by omega
 clear hq1 ht1 hR hm hk HP
 have HUP:=Lib.hid (dev_up q g m c k R w1 HQ1.out HM.out.symm (by omega) (by omega) HU.out)
 unfold hq at HUP
 clear hln
 go_wp2_with (first
  | (refine z1a rfl Tryz.func80 rfl rfl (.tmp 8) "Len" _ _ rfl _ _ _ rfl (z8v HQ1.out zii) [] rfl (zf2 _ m c w1) ?_; rintro e wx ⟨rfl, hwx⟩; subst wx; refine ⟨_, rfl, ?_⟩)
  | (refine HUP.out.mono ?_;rintro e w3 ⟨rfl,Q',hp,hh,hq,ht⟩))
 have HF:=Lib.hid (And.intro (hp.trans HPR.out) (And.intro hh (And.intro hq (HT1.out.trans ht))))
 have HL:=Lib.hid (hp.length_eq.trans HM.out)
 clear hp hh hq ht
 go_wp2_with fail
 refine bodyPost_end (results_none rfl _ _ _) rfl ?_
 obtain ⟨f1,f2,f3,f4⟩:=HF.out
 exact ⟨rfl,_,Q',f1,by rw [HL.out];exact f2,f3,f4⟩
theorem pop_of (q g c k:Nat) (Q:List (List Nat)) (x:List Nat) (w:World) (h:QAt q (.slice (some ⟨g,0,none⟩) (k + 1) c) Q w) (hl:Q.length = k + 1) (hk:k ≤ 90000) (hx:qAt Q k = x) :
 Calls Tryz.prog 189 #[.pointer (some ⟨q,0,none⟩)] w fun e w'=>e = .returned (.iface 25 (.agg (z06 .u8 x).toArray)) ∧ ∃ v',QAt q v' Q.dropLast w' ∧ Turn (QO q (.slice (some ⟨g,0,none⟩) (k + 1) c)) (QO q v') w w':=by
 have h1:=qu_pop q _ Q w h (by omega) (by omega)
 have e:qAt Q (Q.length - 1) = x:=by rw [hl];exact hx
 rwa [e] at h1
theorem heap_pop (q:Nat) (v:Value) (Q:List (List Nat)) (w:World) (h:QAt q v Q w) (hh:HeapN Q Q.length) (h0:0 < Q.length) (hl:Q.length ≤ 90000) :
 Calls Tryz.prog 81 #[hq q] w fun e w'=>e = .returned (.iface 25 (.agg (z06 .u8 (qAt Q 0)).toArray)) ∧ ∃ v' Q',(qAt Q 0 :: Q').Perm Q ∧ HeapN Q' Q'.length ∧ QAt q v' Q' w' ∧ Turn (QO q v) (QO q v') w w':=by
 obtain ⟨g,c,rfl⟩:=h.formB h0
 have hd:=hh.drop h0
 obtain ⟨m,hm⟩:∃ m,Q.length = m:=⟨_,rfl⟩
 obtain ⟨k,hk⟩:∃ k,m = k + 1:=⟨m - 1,by omega⟩
 subst hk
 rw [hm] at h h0 hl hd
 rw [hm]
 rw [show k + 1 - 1 = k from rfl] at hd
 have HQ:=Lib.hid h
 have HD:=Lib.hid hd
 have HM:=Lib.hid hm
 have HS:=Lib.hid (zcm (i:=0) (j:=k) h hm.symm (by omega) (by omega))
 obtain ⟨x,hx⟩:∃ x,qAt Q 0 = x:=⟨_,rfl⟩
 have HX:=Lib.hid (show qAt (z3q Q 0 k) k = x by rw [z23 (by omega) (by omega),if_pos rfl,hx])
 have HPS:=Lib.hid (z3t (Q:=Q) (i:=0) (j:=k) (by omega) (by omega))
 obtain ⟨S,hS⟩:∃ S,z3q Q 0 k = S:=⟨_,rfl⟩
 rw [hS] at HD HS HX HPS
 rw [hx]
 have hki:((k + 1:Nat):Int) - 1 = (k:Int):=by omega
 have hk6:k ≤ 90000:=by omega
 unfold hq
 have hz:((0:Nat):Int) = 0:=rfl
 rw [hz] at HS
 clear h hh hd hm hx hS h0 hl
 go_enter Tryz.func81,Tryz.ntmps81
 go_wp2_with (first
  | (refine z1a rfl Tryz.func80 rfl rfl (.tmp 4) "Len" _ _ rfl _ _ _ rfl (z8v HQ.out zii) [] rfl (zf2 _ (k + 1) c w) ?_; rintro e wx ⟨rfl, hwx⟩; subst wx; refine ⟨_, rfl, ?_⟩)
  | (refine z1a rfl Tryz.func191 rfl rfl (.tmp 7) "Swap" _ _ rfl _ _ _ rfl (z8v HQ.out z7v) [.int .i64 0, .int .i64 k] rfl HS.out ?_))
 rintro e w1 rfl hq1 ht1
 refine ⟨_,rfl,?_⟩
 have HQ1:=Lib.hid hq1
 have HT1:=Lib.hid ht1
 have HLS:=Lib.hid (show k + 1 = S.length by rw [HPS.out.length_eq,HM.out])
 have HDN:=Lib.hid (dev_down q g (k + 1) c k S w1 hq1 HLS.out (by omega) (by omega) HD.out)
 unfold hq at HDN
 clear hq1 ht1 HS HQ HD
 go_wp2_with (first
  | (refine HDN.out.mono ?_; rintro e w2 ⟨⟨r, rfl⟩, Q2, hp2, hh2, hr2, hq2, ht2⟩
     have HL2:=Lib.hid (show Q2.length = k + 1 by rw [hp2.length_eq,← HLS.out])
     have HLAST:=Lib.hid (show qAt Q2 k = x by rw [hr2 k (Nat.le_refl _)];exact HX.out)
     have HP2:=Lib.hid (hp2.trans HPS.out)
     have HH2:=Lib.hid hh2
     have HT2:=Lib.hid (HT1.out.trans ht2)
     have HPOP:=Lib.hid (pop_of q g c k Q2 x w2 hq2 HL2.out hk6 HLAST.out)
     clear hp2 hh2 hr2 hq2 ht2 HQ1 HT1 HDN)
  | (refine z1a rfl Tryz.func189 rfl rfl (.tmp 13) "Pop" _ _ rfl _ _ _ rfl (inv_p q w2 row_pop) [] rfl HPOP.out ?_))
 rintro e w3 rfl v3 hq3 ht3
 refine ⟨_,rfl,?_⟩
 have HF:=Lib.hid (show (x :: Q2.dropLast).Perm Q ∧ HeapN Q2.dropLast Q2.dropLast.length ∧ QAt q v3 Q2.dropLast w3 ∧ Turn (QO q (.slice (some ⟨g,0,none⟩) (k + 1) c)) (QO q v3) w w3 from by
  refine ⟨?_,?_,hq3,HT2.out.trans ht3⟩
  ·have hd:=zhp (Q:=Q2) (by rw [HL2.out];omega)
   rw [HL2.out,show k + 1 - 1 = k from rfl,HLAST.out] at hd
   refine List.Perm.trans ?_ HP2.out
   conv=>rhs;rw [hd]
   exact (List.perm_append_singleton _ _).symm
  ·rw [List.length_dropLast,HL2.out,show k + 1 - 1 = k from rfl]
   intro j hj0 hjk
   rw [zfc (by rw [HL2.out];exact hjk),zfc (by rw [HL2.out];omega)]
   exact HH2.out j hj0 hjk)
 clear hq3 ht3 HPOP
 go_wp2_with fail
 go_ret
 exact ⟨rfl,v3,_,HF.out⟩
structure SQ (X:Nat → Prop) (B:Bs) (T:Ents) (s:DagN) (hs:List (List Nat)) (M:Bh) (q:Nat) (v:Value) (Q:List (List Nat)) (w:World):Prop where
 set:SetAt X B T s hs M w
 qu:QAt q v Q w
 apart:∀ b,QO q v b → ¬ SetO B T b
 qx:∀ b,QO q v b → X b
def SQO (B:Bs) (T:Ents) (q:Nat) (v:Value):Nat → Prop:=fun b=>SetO B T b ∨ QO q v b
section
variable {X:Nat → Prop} {B:Bs} {T T':Ents} {s s':DagN} {hs hs':List (List Nat)} {M M':Bh} {q:Nat} {v v':Value} {Q Q':List (List Nat)} {w w':World}
theorem SQ.below (h:SQ X B T s hs M q v Q w) (k:Below w.heap.size w w'):SQ X B T s hs M q v Q w':=⟨h.set.below k,h.qu.below k,h.apart,h.qx⟩
theorem SQ.turnS (h:SQ X B T s hs M q v Q w) (k:SetAt X B T' s' hs' M' w') (t:Turn (SetO B T) (SetO B T') w w'):SQ X B T' s' hs' M' q v Q w' ∧ Turn (SQO B T q v) (SQO B T' q v) w w':=by
 refine ⟨⟨k,h.qu.only t.only h.apart,fun b hb e=>?_,h.qx⟩,⟨t.only.os,t.only.tape,t.only.output,t.only.size,fun i hi hn=>t.only.block i hi (fun e=>hn (.inl e))⟩,fun b hb=>?_⟩
 ·rcases t.own b e with e | e
  ·exact h.apart b hb e
  ·have:=h.qu.lt hb
   omega
 ·rcases hb with hb | hb
  ·exact (t.own b hb).imp .inl id
  ·exact .inl (.inr hb)
theorem SQ.turnQ (h:SQ X B T s hs M q v Q w) (hX:∀ b,w.heap.size ≤ b → X b) (k:QAt q v' Q' w') (t:Turn (QO q v) (QO q v') w w'):SQ X B T s hs M q v' Q' w' ∧ Turn (SQO B T q v) (SQO B T q v') w w':=by
 refine ⟨⟨h.set.only t.only h.qx (fun b hb e=>h.apart b e hb),k,fun b hb e=>?_,fun b hb=>?_⟩,⟨t.only.os,t.only.tape,t.only.output,t.only.size,fun i hi hn=>t.only.block i hi (fun e=>hn (.inr e))⟩,fun b hb=>?_⟩
 ·rcases t.own b hb with h1 | h1
  ·exact h.apart b h1 e
  ·have:=(SetO.x h.set e).2
   omega
 ·rcases t.own b hb with h1 | h1
  ·exact h.qx b h1
  ·exact hX b h1
 ·rcases hb with hb | hb
  ·exact .inl (.inl hb)
  ·exact (t.own b hb).imp .inr id
theorem SQ.lt (h:SQ X B T s hs M q v Q w) {b:Nat} (hb:SQO B T q v b):X b ∧ b < w.heap.size:=by
 rcases hb with hb | hb
 ·exact SetO.x h.set hb
 ·exact ⟨h.qx b hb,h.qu.lt hb⟩
end
theorem DInv.lenB {s:DagN} {hs:List (List Nat)} {M:Bh} {R F:List (List Nat)} (h:DInv s hs M R F) (p:List Nat):(atB M p).length ≤ s.wait.length ∧ R.length ≤ s.wait.length:=by
 have h1:=h.perm.length_eq
 have h2:=(zc2 h.keys p).length_eq
 simp only [List.length_append,DagN.waits,List.length_map] at h1 h2
 omega
theorem zca {M:Bh} (hd:(M.map (·.1)).Nodup) {n p:List Nat} (h:p ≠ n):atB (z49 M n) p = atB M p:=by
 rw [atB,atB,atE,atE,zbc hd h]
theorem zh4 {M:Bh} (hd:(M.map (·.1)).Nodup) {n p:List Nat} {l:List (List Nat)} (h:n ≠ p):atB (z2v M p l) n = atB M n:=by
 rw [atB,atB,atE,atE,z7o hd _ h]
theorem put_here {β:Type} {L:List (List Nat × β)} (hd:(L.map (·.1)).Nodup) {n:List Nat} {v:β} (h:L.lookup n = some v):z2v L n v = L:=by
 obtain ⟨A,B,h1,h2,_⟩:=z4n hd h
 rw [h2,h1]
theorem drop_at {L:List (List Nat)} {k:Nat} (h:k < L.length):L.drop k = L.getD k [] :: L.drop (k + 1):=by
 rw [List.drop_eq_getElem_cons h,List.getD_eq_getElem?_getD,List.getElem?_eq_getElem h]
 rfl
theorem zec (q:Nat) (v:Value) (Q:List (List Nat)) (x:List Nat) (w:World) (h:QAt q v Q w) (hh:HeapN Q Q.length) (hx:IdOk x) (hl:Q.length ≤ 90000) :
 Calls Tryz.prog 100 #[.iface 109 (.pointer (some ⟨q,0,none⟩)),.iface 25 (.agg (z06 .u8 x).toArray)] w fun e w'=>e = .returned (.tuple #[]) ∧ ∃ v' Q',Q'.Perm (x :: Q) ∧ HeapN Q' Q'.length ∧ QAt q v' Q' w' ∧ Turn (QO q v) (QO q v') w w' :=
 zh1 q v Q x w h hh hx hl
section
variable {X:Nat → Prop} {B:Bs} {T:Ents} {s:DagN} {W':List OpN} {hs:List (List Nat)} {M:Bh} {n:List Nat} {o:OpN} {val:Value} {w w':World} {e:Ending}
theorem zbq (h:WaitPost X B T s W' hs M n o val w e w') (hw:z1f s.names o = true):e = .returned (.bool false) ∧ Below w.heap.size w w':=by
 rcases h with ⟨_,rfl,h2⟩ | ⟨p,v,h1,h2,_⟩
 ·exact ⟨rfl,h2⟩
 ·exact absurd (wholeN_iff.1 hw p h1) h2
theorem zhk (h:WaitPost X B T s W' hs M n o val w e w') (hw:z1f s.names o = false):e = .returned (.bool true) ∧ ∃ p v,p ∈ o.preds ∧ p ∉ s.names ∧ SetAt X B ⟨T.p,z2v T.w n val,z2v T.b p v⟩ ⟨s.ops,W'⟩ hs (z2v M p (atB M p ++ [n])) w' ∧ Turn (SetO B T) (SetO B ⟨T.p,z2v T.w n val,z2v T.b p v⟩) w w':=by
 rcases h with ⟨h1,_⟩ | ⟨p,v,h1,h2,h3,h4⟩
 ·rw [hw] at h1;cases h1
 ·exact ⟨h3,p,v,h1,h2,h4⟩
end
theorem z93 (X:Nat → Prop) (B:Bs) (T:Ents) (s:DagN) (hs:List (List Nat)) (M:Bh) (n:List Nat) (q:Nat) (v:Value) (Q:List (List Nat)) (w:World) (h:SQ X B T s hs M q v Q w) (hX:∀ b,w.heap.size ≤ b → X b) (hn:IdOk n) (hin:n ∈ s.names)
 (hd:DInv s hs (z49 M n) (atB M n) Q) (hh:HeapN Q Q.length) (hfo:∀ x ∈ s.ops,x.d.ref.length = 32) (hfw:∀ x ∈ s.wait,x.Fit) (hlw:s.wait.length ≤ 1000) :
 Calls Tryz.prog 79 #[.pointer (some ⟨B.gs,0,none⟩),.agg (z06 .u8 n).toArray,.pointer (some ⟨q,0,none⟩)] w fun e w'=>e = .returned (.tuple #[]) ∧
  ∃ T' M' v' Q',SQ X B T' s hs M' q v' Q' w' ∧ DInv s hs M' [] Q' ∧ HeapN Q' Q'.length ∧ Turn (SQO B T q v) (SQO B T' q v') w w':=by
 have HX0:=Lib.hid hX
 have HN:=Lib.hid hn
 have HIN:=Lib.hid hin
 have HFO:=Lib.hid hfo
 have HFW:=Lib.hid hfw
 have HD0:=Lib.hid hd
 have HH0:=Lib.hid hh
 have HS00:=Lib.hid h
 have a1:Below w.heap.size w (w.alloc (.cells (z06 .u8 n).toArray 25)):=(Below.refl _ _).alloc (Nat.le_refl _) _
 have x1:Blk w.heap.size 25 .u8 n (w.alloc (.cells (z06 .u8 n).toArray 25)):=heap_alloc_new w _
 have HSN:=Lib.hid (show (Tryz.prog.info? 25).map (·.size) = some n.length by rw [hn.1];exact Tryz.sizeI)
 go_enter Tryz.func79,Tryz.ntmps79
 go_upto_region 1 with (fail)
 obtain ⟨w1,hw1⟩:∃ x,x = w.alloc (.cells (z06 .u8 n).toArray 25):=⟨_,rfl⟩
 rw [← hw1] at a1 x1 ⊢
 obtain ⟨g4,hg4⟩:∃ g,w.heap.size = g:=⟨_,rfl⟩
 rw [hg4] at x1 ⊢
 have HB:=Lib.hid a1
 have H4:=Lib.hid x1
 have HS:=Lib.hid (h.below a1)
 have HG4:=Lib.hid hg4
 have HNO4:=Lib.hid (show ¬ SQO B T q v g4 from fun e=>by have:=(SQ.lt h e).2;omega)
 obtain ⟨hr1,hr2,hr3⟩:=h.set.beh.row h.set.bm.nodup n
 have hdl:=(hd.lenB n).2
 obtain ⟨R,hR⟩:∃ R,atE T.b (.slice none 0 0) n = R:=⟨_,rfl⟩
 obtain ⟨L,hL⟩:∃ L,atB M n = L:=⟨_,rfl⟩
 rw [hR] at hr1
 rw [hL] at hr1 hr3 hdl
 obtain ⟨ao,c,rfl⟩:=hr1.form
 obtain ⟨m,hm⟩:∃ m,L.length = m:=⟨_,rfl⟩
 rw [hm] at hR hdl hr1
 have HM:=Shut.mk hm
 have HR:=Shut.mk hR
 have HLE:=Shut.mk hL
 have HLI:=Lib.hid hr3
 clear a1 x1 hw1 hg4 h hX hn hin hd hh hfo hfw hr1 hr2 hr3 hR hL hm
 have HCE:=Lib.hid (fun w' (hb:Below w1.heap.size w1 w')=>(HS.out.below hb).set.cell.2.2.2)
 have HI4:=Lib.hid (fun w' (hb:Below w1.heap.size w1 w')=>H4.out.below hb)
 refine z09 (fun w'=>Below w1.heap.size w1 w') (by kernel_rfl) (by kernel_rfl) (Below.refl _ _).drew ?_
 repeat (first
  | (go_big_quiet_want;refine z02 78 _ rfl ⟨B.gs,3,none⟩ _ rfl HCE.out Tryz.isAgg78 ?_;go_big_quiet_on;simp only [Act.put,zS,zA,zB])
  | (go_big_quiet_want;refine z0q 25 _ rfl g4 .u8 n 25 _ rfl HI4.out Tryz.underlying25 rfl HSN.out ?_;go_big_quiet_on;simp only [Act.put,zS,zA,zB])
  | (go_big_quiet_want;refine z3w _ _ 78 25 34 false rfl Tryz.idKey Tryz.underlying78 (.slice none 0 0) zft B.b T.b (fun w' hb=>(HS.out.below hb).set.bm) n HN.out rfl rfl _ HR.out ?_;go_big_quiet_on;simp only [Act.put,zS,zA,zB])
  | go_big_quiet_step ((intro hs';rfl)))
 refine wpQuiet_nil ?_
 intro w2 hs2
 have HS2:=Lib.hid (HS.out.below hs2)
 have HB2:=Lib.hid (HB.out.trans (hs2.mono HB.out.size))
 have H42:=Lib.hid (H4.out.below hs2)
 clear hs2 HCE HI4 HS HB H4
 go_wp2_with fail
 go_loopw [15] (fun i wr=>∃ (k:Nat) (Tk:Ents) (Mk:Bh) (vk:Value) (Qk:List (List Nat)),k ≤ m ∧ i = .int .i64 k ∧ SQ X B Tk s hs Mk q vk Qk wr ∧ DInv s hs (z49 Mk n) (L.drop k) Qk ∧ HeapN Qk Qk.length ∧ atB Mk n = L ∧ atE Tk.b (.slice none 0 0) n = .slice ao m c ∧ Turn (SQO B T q v) (SQO B Tk q vk) w2 wr) (fun i _=>m - (intOf i).toNat)
 case atStart=>exact ⟨0,T,M,v,Q,Nat.zero_le _,rfl,HS2.out,by rw [List.drop_zero,← HLE.out];exact HD0.out,HH0.out,HLE.out,HR.out,Turn.refl _ _⟩
 case round =>
  obtain ⟨k,Tk,Mk,vk,Qk,hk,rfl,hsq,hdi,hhk,hmk,hrk,htk⟩:=hrel
  obtain ⟨hr1,hr2,hr3⟩:=hsq.set.beh.row hsq.set.bm.nodup n
  rw [hrk,hmk] at hr1
  have hat:=hr1.at HLI.out
  have hkk:=hsq.set.beh.keys
  have HKM:=Lib.hid (show (Mk.map (·.1)).Nodup from hkk ▸ hsq.set.bm.nodup)
  have HKE:=Lib.hid hsq.set.bm.nodup
  have HSQ:=Lib.hid hsq
  have HDI:=Lib.hid hdi
  have HHK:=Lib.hid hhk
  have HMK:=Shut.mk hmk
  have HRK:=Shut.mk hrk
  have HTK:=Lib.hid htk
  have HXK:=Lib.hid (fun b (hb:wr.heap.size ≤ b)=>HX0.out b (Nat.le_trans HB2.out.size (Nat.le_trans htk.only.size hb)))
  have HLF:=Lib.hid (show Qk.length ≤ 1000 from Nat.le_trans hdi.lenF hlw)
  clear hsq hdi hhk hmk hrk htk hr1 hr2 hr3 hkk
  by_cases hlt:k < m
  ·obtain ⟨b,ob,rfl,hbl⟩:=hat.some (by rw [HM.out];omega)
   have gx:=hat.get (i:=k) (by rw [HM.out];omega)
   have i1:=Ids.getD HLI.out (i:=k) (by rw [HM.out];omega)
   have hdr:=drop_at (L:=L) (k:=k) (by rw [HM.out];exact hlt)
   obtain ⟨x,hx⟩:∃ x,L.getD k [] = x:=⟨_,rfl⟩
   rw [hx] at gx i1 hdr
   have HXI:=Lib.hid (show IdOk x from i1)
   have HG1:=Lib.hid gx
   have hdi:=HDI.out
   rw [hdr] at hdi
   have HDX:=Lib.hid hdi
   have HS1:=Lib.hid (show (Tryz.prog.info? 25).map (·.size) = some x.length by rw [i1.1];exact Tryz.sizeI)
   have HL2:=Lib.hid (show (List.replicate 32 0).length = x.length by rw [i1.1];rfl)
   obtain ⟨o0,ho0,ho1⟩:=hdi.op (m:=x) (by simp)
   obtain ⟨o,pa,pc,e1,e2,e3,e4,e5⟩:=z3z HSQ.out.set.wait HSQ.out.set.wm.nodup (fun y hy=>(HFW.out y hy).d.ref.1) x
   obtain ⟨_,f1,f2,f3,f4,_⟩:=e5.resolve_right (fun h=>h.1 (List.mem_map.2 ⟨o0,ho0,ho1⟩))
   have HE1:=Shut.mk e1
   have HOF:=Lib.hid (HFW.out o f1)
   have HOW:=Lib.hid f1
   have HON:=Lib.hid f2
   have HLK:=Lib.hid f4
   have HIA:=Lib.hid e4
   have HWE:=Lib.hid (show EntsO X s.wait (z2v Tk.w x (.agg (opV o pa pc))) wr from by
    rw [put_here HSQ.out.set.wm.nodup f4]
    exact HSQ.out.set.wait)
   clear hx gx i1 hbl hdr hdi ho0 ho1 e1 e2 e3 e4 e5 f1 f2 f3 f4 hat
   go_wp2_with (first
    | (refine z0b rfl 25 _ rfl b (ob + k * 32) x _ rfl HG1.out Tryz.underlying25 rfl HS1.out ?_)
    | (refine z04 rfl 25 _ _ rfl rfl wr.heap.size .u8 (List.replicate 32 0) x 25 rfl rfl (heap_alloc_new wr _) HS1.out HL2.out ?_))
   intro w5 hc' hb'
   have HB5:=Lib.hid (show Below wr.heap.size wr w5 from But.toBelow ((Below.refl _ _).alloc (Nat.le_refl _) _) hb'.out (Nat.le_refl _) (by rw [World.size_alloc];exact Nat.le_succ _))
   have HS5:=Lib.hid (HSQ.out.below HB5.out)
   have HT5:=Lib.hid (HTK.out.below HB5.out)
   have HWE5:=Lib.hid (HWE.out.below HB5.out)
   have HIA5:=Lib.hid (HIA.out.below HB5.out)
   obtain ⟨g7,hg7⟩:∃ g,wr.heap.size = g:=⟨_,rfl⟩
   have HC5:=Lib.hid (show Blk g7 25 .u8 x w5 from hg7 ▸ hc'.out)
   have HNO7:=Lib.hid (show ¬ SQO B Tk q vk g7 from fun e=>by have:=(SQ.lt HSQ.out e).2;omega)
   have HX5:=Lib.hid (fun b (hb:w5.heap.size ≤ b)=>HXK.out b (Nat.le_trans HB5.out.size hb))
   rw [hg7]
   clear hc' hb' hg7 HG1 HWE HIA
   go_upto_region 4 with (fail)
   have HCE:=Lib.hid (fun w' (hb:Below w5.heap.size w5 w')=>(HS5.out.below hb).set.cell.2.1)
   have HI7:=Lib.hid (fun w' (hb:Below w5.heap.size w5 w')=>HC5.out.below hb)
   refine z08 (fun w'=>Below w5.heap.size w5 w') 8 (by kernel_rfl) (by kernel_rfl) (Below.refl _ _).drew ?_
   simp only [zC,zD,zE,zF]
   repeat (first
    | (go_big_quiet_want;refine z02 76 _ rfl ⟨B.gs,1,none⟩ _ rfl HCE.out Tryz.isAgg76 ?_;go_big_quiet_on;simp only [Act.put,zS,zA,zB])
    | (go_big_quiet_want;refine z0q 25 _ rfl g7 .u8 x 25 _ rfl HI7.out Tryz.underlying25 rfl HS1.out ?_;go_big_quiet_on;simp only [Act.put,zS,zA,zB])
    | (go_big_quiet_want;refine z3w _ _ 76 25 38 false rfl Tryz.idKey Tryz.underlying76 (.agg (opV z05 none 0)) z6r B.w Tk.w (fun w' hb=>(HS5.out.below hb).set.wm) x HXI.out rfl rfl _ HE1.out ?_;go_big_quiet_on;simp only [Act.put,zS,zA,zB])
    | go_big_quiet_step ((intro hs';rfl)))
   refine wpQuiet_nil ?_
   intro w6 hs6
   have HS6:=Lib.hid (HS5.out.below hs6)
   have HT6:=Lib.hid (HT5.out.below hs6)
   have HC6:=Lib.hid (HC5.out.below hs6)
   have HX6:=Lib.hid (fun b (hb:w6.heap.size ≤ b)=>HX5.out b (Nat.le_trans hs6.size hb))
   have HWT:=Lib.hid (zfd X B Tk s hs Mk x o pa pc s.wait w6 HS6.out.set HX6.out HXI.out HOF.out.d.ref.1 HOF.out.preds (HIA5.out.below hs6) (by have:=HOF.out.many;omega) (HWE5.out.below hs6) HFO.out (fun p=>by
    by_cases hpn:p = n
    ·rw [hpn,HMK.out,HM.out];omega
    ·have:=(HDX.out.lenB p).1
     rw [zca HKM.out hpn] at this
     omega))
   clear hs6 HCE HI7 HS5 HT5 HC5 HWE5 HIA5 HX5
   obtain ⟨z,hz⟩:∃ z,z1f s.names o = z:=⟨_,rfl⟩
   have HZ:=Shut.mk hz
   clear hz
   cases z with
   | true =>
     have HWY:=Lib.hid (HWT.out.mono (fun e w' h=>zbq h HZ.out))
     clear HWT
     go_wp2_with (first
      | (refine HWY.out.mono ?_; rintro e w7 ⟨rfl, hb7⟩
         have HS7:=Lib.hid (HS6.out.below hb7)
         have HT7:=Lib.hid (HT6.out.below hb7)
         have HC7:=Lib.hid (HC6.out.below hb7)
         have HX7:=Lib.hid (fun b (hb:w7.heap.size ≤ b)=>HX6.out b (Nat.le_trans hb7.size hb))
         have HPU:=Lib.hid (zec q vk Qk x w7 HS7.out.qu HHK.out HXI.out (by have:=HLF.out;omega))
         clear hb7)
      | (refine z03 rfl 25 (.tmp 7) rfl g7 .u8 x 25 _ rfl HC7.out Tryz.underlying25 rfl HS1.out ?_)
      | (refine HPU.out.mono ?_; rintro e w8 ⟨rfl, v8, Q8, hp8, hh8, hq8, ht8⟩
         obtain ⟨hs8,htt8⟩:=HS7.out.turnQ HX7.out hq8 ht8
         have HS8:=Lib.hid hs8
         have HT8:=Lib.hid (HT7.out.trans htt8)
         have HH8:=Lib.hid hh8
         have HP8:=Lib.hid hp8
         clear hp8 hh8 hq8 ht8 hs8 htt8))
     have HD8:=Lib.hid (show DInv s hs (z49 Mk n) (L.drop (k + 1)) Q8 from (HDX.out.step_free HOW.out HON.out HZ.out).permF HP8.out.symm)
     exact ⟨⟨k + 1,Tk,Mk,v8,Q8,by omega,by go_num,HS8.out,HD8.out,HH8.out,HMK.out,HRK.out,HT8.out⟩,by simp [intOf];omega⟩
   | false =>
     have HWN:=Lib.hid (HWT.out.mono (fun e w' h=>zhk h HZ.out))
     clear HWT
     go_wp2_with (refine HWN.out.mono ?_;rintro e w7 ⟨rfl,p,u,hpo,hpn,hset,htn⟩)
     have hne:n ≠ p:=fun e=>hpn (e ▸ HIN.out)
     obtain ⟨hs7,ht7⟩:=HS6.out.turnS hset htn
     have hd7:=HDX.out.step_wait HOW.out HON.out hpo hpn
     rw [zca HKM.out (Ne.symm hne),← zgg _ (Ne.symm hne)] at hd7
     exact ⟨⟨k + 1,_,_,vk,Qk,by omega,by go_num,hs7,hd7,HHK.out,by rw [zh4 HKM.out hne];exact HMK.out,by
      show atE (z2v Tk.b p u) (.slice none 0 0) n = _
      rw [atE,z7o HKE.out _ hne]
      exact HRK.out,HT6.out.trans ht7⟩,by simp [intOf];omega⟩
  ·obtain rfl:k = m:=by omega
   have hde:=HDI.out
   rw [List.drop_of_length_le (by rw [HM.out];exact Nat.le_refl _)] at hde
   have HDE:=Lib.hid hde
   have H4K:=Lib.hid (H42.out.only HTK.out.only HNO4.out)
   clear hde hat
   go_upto_region 7 with (fail)
   have HCE:=Lib.hid (fun w' (hb:Below wr.heap.size wr w')=>(HSQ.out.below hb).set.cell.2.2.2)
   have HI4:=Lib.hid (fun w' (hb:Below wr.heap.size wr w')=>H4K.out.below hb)
   refine z08 (fun w'=>Below wr.heap.size wr w') 5 (by kernel_rfl) (by kernel_rfl) (Below.refl _ _).drew ?_
   simp only [zC,zD,zE,zF]
   repeat (first
    | (go_big_quiet_want;refine z02 78 _ rfl ⟨B.gs,3,none⟩ _ rfl HCE.out Tryz.isAgg78 ?_;go_big_quiet_on;simp only [Act.put,zS,zA,zB])
    | (go_big_quiet_want;refine z0q 25 _ rfl g4 .u8 n 25 _ rfl HI4.out Tryz.underlying25 rfl HSN.out ?_;go_big_quiet_on;simp only [Act.put,zS,zA,zB])
    | go_big_quiet_step ((intro hs';rfl)))
   refine wpQuiet_nil ?_
   intro w8 hs8
   have HS8:=Lib.hid (HSQ.out.below hs8)
   have HT8:=Lib.hid (HTK.out.below hs8)
   have HBM:=Lib.hid HS8.out.set.bm
   clear hs8 HCE HI4 HSQ HTK
   go_wp2_with (refine z3i rfl _ _ 78 25 34 rfl Tryz.idKey Tryz.underlying78 B.b _ HBM.out n HN.out rfl rfl ?_)
   intro w9 hm9 ho9
   obtain ⟨hs9,ht9⟩:=HS8.out.set.delB n ho9.out hm9.out
   obtain ⟨hf1,hf2⟩:=HS8.out.turnS hs9 ht9
   have HF1:=Lib.hid hf1
   have HF2:=Lib.hid ((Turn.of HB2.out).trans (HT8.out.trans hf2))
   clear hm9 ho9 hs9 ht9 hf1 hf2
   go_wp2_with fail
   refine bodyPost_end (results_none rfl _ _ _) rfl ?_
   exact ⟨rfl,_,_,vk,Qk,HF1.out,HDE.out,HHK.out,HF2.out⟩
section
variable {X O:Nat → Prop} {B:Bs} {T:Ents} {s:DagN} {hs:List (List Nat)} {M:Bh} {q:Nat} {v:Value} {Q:List (List Nat)} {w w':World}
theorem SQ.only (h:SQ X B T s hs M q v Q w) (k:Only O w w') (hO:∀ b,O b → X b) (hd:∀ b,SQO B T q v b → ¬ O b):SQ X B T s hs M q v Q w' :=
 ⟨h.set.only k hO (fun b hb=>hd b (.inl hb)),h.qu.only k (fun b hb=>hd b (.inr hb)),h.apart,h.qx⟩
theorem SQ.start (h:SetAt X B T s hs M w) (hX:∀ b,w.heap.size ≤ b → X b) (hq:QAt q v Q w') (k:Below w.heap.size w w') (hn:∀ b,QO q v b → w.heap.size ≤ b):SQ X B T s hs M q v Q w' :=
 ⟨h.below k,hq,fun b hb e=>by have:=hn b hb;have:=(SetO.x h e).2;omega,fun b hb=>hX b (hn b hb)⟩
end
theorem zia {g:Nat} {x:List Nat} {w:World} {B:Nat} (h:Blk g 25 .u8 x w) (hx:x.length = 32) (hB:B ≤ g):OwnI B 25 (.slice (some ⟨g,0,none⟩) 1 1) [x] w:=by
 have hf:z1w [x] = z06 .u8 x:=by simp [z1w]
 refine ⟨by rw [hf,z0v,hx];rfl,.inr ⟨g,1,(z06 .u8 x).toArray,rfl,hB,h,Nat.le_refl _,by unfold maxLen;omega,by rw [List.size_toArray,z0v,hx],?_⟩⟩
 rw [hf]
 show (z06 .u8 x).take (1 * 32) = _
 rw [List.take_of_length_le (by rw [z0v,hx];exact Nat.le_refl _)]
def zbr (w:World) (b:Nat):Nat:=match w.heap[b]? with
 | some (.map es _)=>es.size
 | _=>0
theorem MapN.size {b:Nat} {L:List (List Nat × Value)} {w:World} (h:MapN b L w):zbr w b = L.length:=by
 obtain ⟨es,clock,h1,_,h3⟩:=h.ex
 have:=congrArg List.length h3
 rw [zbr,h1]
 simpa using this
theorem SetAt.size {X:Nat → Prop} {B:Bs} {T:Ents} {s:DagN} {hs:List (List Nat)} {M:Bh} {w:World} (h:SetAt X B T s hs M w):zbr w B.w = s.wait.length:=by
 rw [h.wm.size,h.wait.1]
structure Tame (s:DagN):Prop where
 ops:∀ x ∈ s.ops,x.Fit
 wait:∀ x ∈ s.wait,x.Fit
 shallow:s.Shallow
 many:s.ops.length + s.wait.length ≤ 1000
theorem Tame.push {s:DagN} (h:Tame s) {o:OpN} {i:Nat} (hi:s.wait[i]? = some o) (hd:o.depth = z1h s.ops o):Tame ⟨s.ops ++ [o],s.wait.eraseIdx i⟩:=by
 have hil:=(List.getElem?_eq_some_iff.1 hi).1
 have hl:(s.wait.eraseIdx i).length + 1 = s.wait.length:=by rw [List.length_eraseIdx,if_pos hil];omega
 refine ⟨fun x hx=>?_,fun x hx=>h.wait x ((List.eraseIdx_sublist _ _).subset hx),Shallow_push h.shallow hd _,by simp only [List.length_append,List.length_singleton];have:=h.many;omega⟩
 rcases List.mem_append.1 hx with hx | hx
 ·exact h.ops x hx
 ·obtain rfl:=List.mem_singleton.1 hx
  exact h.wait x (List.mem_of_getElem? hi)
theorem Tame.drop {s:DagN} (h:Tame s) (i:Nat):Tame ⟨s.ops,s.wait.eraseIdx i⟩ :=
 ⟨h.ops,fun x hx=>h.wait x ((List.eraseIdx_sublist _ _).subset hx),h.shallow,by have:=h.many;have:=List.length_eraseIdx_le s.wait i;show s.ops.length + (s.wait.eraseIdx i).length ≤ 1000;omega⟩
theorem Tame.come {s:DagN} (h:Tame s) {o:OpN} (ho:o.Fit) (hd:o.depth = z1h s.ops o) (hm:s.ops.length + s.wait.length ≤ 999):Tame ⟨s.ops ++ [o],s.wait⟩:=by
 refine ⟨fun x hx=>?_,h.wait,Shallow_push h.shallow hd _,by simp only [List.length_append,List.length_singleton];omega⟩
 rcases List.mem_append.1 hx with hx | hx
 ·exact h.ops x hx
 ·obtain rfl:=List.mem_singleton.1 hx
  exact ho
theorem EntsO.drop {X:Nat → Prop} {L:List OpN} {E:List (List Nat × Value)} {w:World} (h:EntsO X L E w) (hd:(E.map (·.1)).Nodup) {i:Nat} {o:OpN} (hi:L[i]? = some o):EntsO X (L.eraseIdx i) (z49 E (z0a o)) w:=by
 obtain ⟨pa,pc,h1,_⟩:=h.2 i o hi
 rw [z7e hd h1]
 exact h.erase i
end Go.Proofs.YtnbldbbbibpobaaGreatDoor
