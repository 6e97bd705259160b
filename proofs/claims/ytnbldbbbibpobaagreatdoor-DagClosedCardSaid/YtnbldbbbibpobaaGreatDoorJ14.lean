/-
  Joined: The developers' add.; Calls of a method through an interface value that holds a pointer.; A heap of names as mathematics: one goes up, one goes down, the least comes first.; bytes.Compare (its assembly is the model's own entry, by the kit's law), and the developers' Compare.; A queue of names in memory; its methods but those that turn it.; A queue's Swap and Push, Pop. Written by dag/gen/gen_qu.py.
-/
import Derived.ChangeKeysEq
import Derived.Lib.Bytealg
import Derived.Lib.BytesEntry
import Derived.Test.YtnbldbbbibpobaaGreatDoorJ02
import Derived.Test.YtnbldbbbibpobaaGreatDoorJ04
import Derived.Test.YtnbldbbbibpobaaGreatDoorJ13
set_option maxRecDepth 100000
set_option maxHeartbeats 8000000
namespace Go.Proofs.YtnbldbbbibpobaaGreatDoor
open Go.RowKit Go.BigFrame
theorem zij (hs:List (List Nat)) (x:List Nat):z49 (z58 hs) x = z58 (hs.filter fun n=>!decide (n = x)):=by
 rw [z49,z58,z58,List.filter_map]
 rfl
theorem zed {hs P:List (List Nat)} {k:Nat} (hk:k < P.length):(hs.filter fun n=>!decide (n ∈ P.take k)).filter (fun n=>!decide (n = P.getD k [])) = hs.filter fun n=>!decide (n ∈ P.take (k + 1)):=by
 rw [List.filter_filter]
 refine List.filter_congr fun n _=>?_
 rw [List.take_succ_eq_append_getElem hk,List.getD_eq_getElem?_getD,List.getElem?_eq_getElem hk,Option.getD_some]
 rw [← Bool.not_or]
 congr 1
 rw [← Bool.decide_or]
 refine decide_eq_decide.2 ?_
 rw [List.mem_append,List.mem_singleton]
 exact Or.comm
theorem Tryz.built_unit:Tryz.prog.built 92 [] = some #[]:=by kernel_rfl
theorem zgk {o:Oper} {a:Act} {C:World → Prop} {K:Act → Prop} (ho:o.op = .build 92 #[]) (h:K (a.put o.dst (.agg #[]))):o.quiet Tryz.prog a C K:=by
 exact z3v 92 #[] ho [] #[] (by simp) Tryz.built_unit h
theorem zi3 (X:Nat → Prop) (B:Bs) (T:Ents) (s:DagN) (hs:List (List Nat)) (M:Bh) (n:List Nat) (o:OpN) (pa:Option Addr) (pc:Nat) (w:World) (h:SetAt X B T s hs M w) (hne:z0a o = n) (ho:o.d.ref.length = 32) (hP:Ids o.preds) (hp:IAt pa o.preds w) (hoff:OffX X pa o.preds) (hq:o.preds.length ≤ 1000000)
 (hnew:n ∉ s.names) (hnh:n ∉ hs) :
 Calls Tryz.prog 78 #[.pointer (some ⟨B.gs,0,none⟩),.agg (z06 .u8 n).toArray,.agg (opV o pa pc)] w fun e w'=>e = .returned (.tuple #[]) ∧
  SetAt X B ⟨z2v T.p n (.agg (opV o pa pc)),T.w,T.b⟩ ⟨s.ops ++ [o],s.wait⟩ ((hs.filter fun n=>!decide (n ∈ o.preds)) ++ [n]) M w' ∧ Turn (SetO B T) (SetO B T) w w':=by
 have hn:IdOk n:=hne ▸ ⟨z1u o,z2o o⟩
 have hE:EntsO X (s.ops ++ [o]) (z2v T.p n (.agg (opV o pa pc))) w:=by
  rw [z1p (by rw [h.ops.keys];exact hnew),← hne]
  exact h.ops.push o pa pc hp hoff
 have HE:=Lib.hid hE
 have HN:=Lib.hid hn
 have HO:=Lib.hid ho
 have HPI:=Lib.hid hP
 have HOFF:=Lib.hid hoff
 have HSO0:=Lib.hid (fun b (hb:SetO B T b)=>SetO.x h hb)
 have HKN:=Lib.hid (show n ∉ (z58 (hs.filter fun n=>!decide (n ∈ o.preds))).map (·.1) from fun e=>by
  rw [z58,List.map_map] at e
  obtain ⟨y,hy,e⟩:=List.mem_map.1 e
  obtain rfl:y = n:=e
  exact hnh (List.mem_filter.1 hy).1)
 have a1:Below w.heap.size w (w.alloc (.cells (z06 .u8 n).toArray 25)):=(Below.refl _ _).alloc (Nat.le_refl _) _
 have x1:Blk w.heap.size 25 .u8 n (w.alloc (.cells (z06 .u8 n).toArray 25)):=heap_alloc_new w _
 have s1:(w.alloc (.cells (z06 .u8 n).toArray 25)).heap.size = w.heap.size + 1:=World.size_alloc _ _
 have HSN:=Lib.hid (show (Tryz.prog.info? 25).map (·.size) = some n.length by rw [hn.1];exact Tryz.sizeI)
 have HSO:=Lib.hid (show (Tryz.prog.info? 38).map (·.size) = some (opV o pa pc).size by rw [z07 ho];exact Tryz.sizeO)
 obtain ⟨m,hm⟩:∃ m,o.preds.length = m:=⟨_,rfl⟩
 have HM:=Shut.mk hm
 rw [hm] at hq
 go_enter Tryz.func78,Tryz.ntmps78
 go_upto_region 1 with (fail)
 obtain ⟨w1,hw1⟩:∃ x,x = w.alloc (.cells (z06 .u8 n).toArray 25):=⟨_,rfl⟩
 rw [← hw1] at a1 x1 s1 ⊢
 have a2:Below w1.heap.size w1 (w1.alloc (.cells (opV o pa pc) 38)):=(Below.refl _ _).alloc (Nat.le_refl _) _
 have x2:Cells w1.heap.size 38 (opV o pa pc) (w1.alloc (.cells (opV o pa pc) 38)):=heap_alloc_new w1 _
 obtain ⟨w2,hw2⟩:∃ x,x = w1.alloc (.cells (opV o pa pc) 38):=⟨_,rfl⟩
 rw [← hw2] at a2 x2 ⊢
 have hB:=a1.trans (a2.mono a1.size)
 have x12:=x1.below a2
 obtain ⟨g4,hg4⟩:∃ g,w.heap.size = g:=⟨_,rfl⟩
 rw [s1,hg4] at x2
 obtain ⟨g5,hg5⟩:∃ g,g4 + 1 = g:=⟨_,rfl⟩
 rw [hg4] at x12 ⊢
 rw [hg5] at x2 ⊢
 have HB:=Lib.hid hB
 have H4:=Lib.hid x12
 have H5:=Lib.hid x2
 have HS:=Lib.hid (h.below hB)
 have HPA:=Lib.hid (hp.below hB)
 have HNO4:=Lib.hid (show ¬ SetO B T g4 from fun e=>by have:=(HSO0.out _ e).2;omega)
 have HNO5:=Lib.hid (show ¬ SetO B T g5 from fun e=>by have:=(HSO0.out _ e).2;omega)
 have HG4:=Lib.hid hg4
 have HE2:=Lib.hid (HE.out.below hB)
 clear a1 a2 x1 x2 s1 hw1 hw2 hB x12 hg4 hg5 h ho hP hp hm hE hn hoff hnew hnh HE
 have HCE:=Lib.hid (fun w' (hb:Below w2.heap.size w2 w')=>(HS.out.below hb).cell.1)
 have HI4:=Lib.hid (fun w' (hb:Below w2.heap.size w2 w')=>H4.out.below hb)
 have HI5:=Lib.hid (fun w' (hb:Below w2.heap.size w2 w')=>H5.out.below hb)
 refine z08 (fun w'=>Below w2.heap.size w2 w') 6 (by kernel_rfl) (by kernel_rfl) (Below.refl _ _).drew ?_
 simp only [zC,zD,zE,zF]
 repeat (first
  | (go_big_quiet_want;refine z02 76 _ rfl ⟨B.gs,0,none⟩ _ rfl HCE.out Tryz.isAgg76 ?_;go_big_quiet_on;simp only [Act.put,zS,zA,zB])
  | (go_big_quiet_want;refine z0q 25 _ rfl g4 .u8 n 25 _ rfl HI4.out Tryz.underlying25 rfl HSN.out ?_;go_big_quiet_on;simp only [Act.put,zS,zA,zB])
  | (go_big_quiet_want;refine z0n 38 _ rfl g5 _ 38 _ rfl HI5.out Tryz.underlying38 rfl HSO.out ?_;go_big_quiet_on;simp only [Act.put,zS,zA,zB])
  | go_big_quiet_step ((intro hs';rfl)))
 refine wpQuiet_nil ?_
 intro w21 hs21
 have HS21:=Lib.hid (HS.out.below hs21)
 have HB21:=Lib.hid (HB.out.trans (hs21.mono HB.out.size))
 have HE21:=Lib.hid (HE2.out.below hs21)
 have HPM:=Lib.hid HS21.out.pm
 have H421:=Lib.hid (H4.out.below hs21)
 have H521:=Lib.hid (H5.out.below hs21)
 have HPA21:=Lib.hid (HPA.out.below hs21)
 clear hs21 HCE HI4 HI5 HS HE2 H4 H5 HPA
 go_wp2_with (refine z3f rfl _ _ _ 76 25 38 rfl Tryz.idKey Tryz.underlying76 B.p T.p HPM.out n HN.out _ rfl rfl rfl ?_)
 intro w3 hm3 ho3
 obtain ⟨hs3,ht3⟩:=HS21.out.putP ho3.out hm3.out HE21.out
 have HS3:=Lib.hid hs3
 have HT3:=Lib.hid ((Turn.of HB21.out).trans ht3)
 have HMX:=Lib.hid (fun b (hb:SetO B T b)=>(HSO0.out b hb).1)
 have H43:=Lib.hid (H421.out.only ho3.out (fun e=>HNO4.out (.inr (.inl e))))
 have H53:=Lib.hid (H521.out.only ho3.out (fun e=>HNO5.out (.inr (.inl e))))
 have HPA3:=Lib.hid (HPA21.out.only ho3.out (HOFF.out.mono (fun b e=>HMX.out b (.inr (.inl e)))))
 clear hm3 ho3 hs3 ht3 H421 H521 HPA21 HPM HB21 HS21 HE21
 obtain ⟨_,_,_,c37⟩:=z0k HO.out H53.out
 rw [HM.out] at c37
 go_wp2_with fail
 clear c37
 go_loopw [17] (fun i wr=>∃ k:Nat,k ≤ m ∧ i = .int .i64 k ∧ SetAt X B ⟨z2v T.p n (.agg (opV o pa pc)),T.w,T.b⟩ ⟨s.ops ++ [o],s.wait⟩ (hs.filter fun n=>!decide (n ∈ o.preds.take k)) M wr ∧ Turn (SetO B T) (SetO B T) w3 wr) (fun i _=>m - (intOf i).toNat)
 case atStart =>
  refine ⟨0,Nat.zero_le _,rfl,?_,Turn.refl _ _⟩
  have he:(hs.filter fun n=>!decide (n ∈ o.preds.take 0)) = hs:=List.filter_eq_self.2 (fun x _=>by simp)
  rw [he]
  exact HS3.out
 case round =>
  obtain ⟨k,hk,rfl,hsk,htk⟩:=hrel
  have HSK:=Lib.hid hsk
  have HTK:=Lib.hid htk
  have HPW:=Lib.hid (HPA3.out.only htk.only (HOFF.out.mono HMX.out))
  have H4K:=Lib.hid (H43.out.only htk.only HNO4.out)
  have HWK:=Lib.hid htk.only.size
  clear hsk htk
  by_cases hlt:k < m
  ·obtain ⟨b,ob,rfl,hbl⟩:=HPW.out.some (by rw [HM.out];omega)
   have gx:=HPW.out.get (i:=k) (by rw [HM.out];omega)
   have i1:=Ids.getD HPI.out (i:=k) (by rw [HM.out];omega)
   have hfs:=zed (hs:=hs) (P:=o.preds) (k:=k) (by rw [HM.out];exact hlt)
   obtain ⟨x,hx⟩:∃ x,o.preds.getD k [] = x:=⟨_,rfl⟩
   rw [hx] at gx i1 hfs
   have HXI:=Lib.hid (show IdOk x from i1)
   have HFS:=Shut.mk hfs
   have HG1:=Lib.hid gx
   have HS1:=Lib.hid (show (Tryz.prog.info? 25).map (·.size) = some x.length by rw [i1.1];exact Tryz.sizeI)
   have HL2:=Lib.hid (show (List.replicate 32 0).length = x.length by rw [i1.1];rfl)
   clear hx gx i1 hbl hfs
   go_wp2_with (first
    | (refine z0b rfl 25 _ rfl b (ob + k * 32) x _ rfl HG1.out Tryz.underlying25 rfl HS1.out ?_)
    | (refine z04 rfl 25 _ _ rfl rfl wr.heap.size .u8 (List.replicate 32 0) x 25 rfl rfl (heap_alloc_new wr _) HS1.out HL2.out ?_))
   intro w5 hc' hb'
   have HB5:=Lib.hid (show Below wr.heap.size wr w5 from But.toBelow ((Below.refl _ _).alloc (Nat.le_refl _) _) hb'.out (Nat.le_refl _) (by rw [World.size_alloc];exact Nat.le_succ _))
   have HS5:=Lib.hid (HSK.out.below HB5.out)
   have HT5:=Lib.hid (HTK.out.below HB5.out)
   obtain ⟨g7,hg7⟩:∃ g,wr.heap.size = g:=⟨_,rfl⟩
   have HC5:=Lib.hid (show Blk g7 25 .u8 x w5 from hg7 ▸ hc'.out)
   rw [hg7]
   clear hc' hb' hg7 HG1
   go_upto_region 5 with (fail)
   have HCE:=Lib.hid (fun w' (hb:Below w5.heap.size w5 w')=>(HS5.out.below hb).cell.2.2.1)
   have HI7:=Lib.hid (fun w' (hb:Below w5.heap.size w5 w')=>HC5.out.below hb)
   refine z08 (fun w'=>Below w5.heap.size w5 w') 5 (by kernel_rfl) (by kernel_rfl) (Below.refl _ _).drew ?_
   simp only [zC,zD,zE,zF]
   repeat (first
    | (go_big_quiet_want;refine z02 77 _ rfl ⟨B.gs,2,none⟩ _ rfl HCE.out Tryz.isAgg77 ?_;go_big_quiet_on;simp only [Act.put,zS,zA,zB])
    | (go_big_quiet_want;refine z0q 25 _ rfl g7 .u8 x 25 _ rfl HI7.out Tryz.underlying25 rfl HS1.out ?_;go_big_quiet_on;simp only [Act.put,zS,zA,zB])
    | go_big_quiet_step ((intro hs';rfl)))
   refine wpQuiet_nil ?_
   intro w6 hs6
   have HS6:=Lib.hid (HS5.out.below hs6)
   have HT6:=Lib.hid (HT5.out.below hs6)
   have HHM:=Lib.hid HS6.out.hm
   clear hs6 HCE HI7 HS5 HT5
   go_wp2_with (refine z3i rfl _ _ 77 25 92 rfl Tryz.idKey Tryz.underlying77 B.h _ HHM.out x HXI.out rfl rfl ?_)
   intro w7 hm7 ho7
   have hm7':=hm7.out
   rw [zij,HFS.out] at hm7'
   obtain ⟨hs7,ht7⟩:=HS6.out.putH ho7.out hm7'
   have HS7:=Lib.hid hs7
   have HT7:=Lib.hid (HT6.out.trans ht7)
   clear hm7 hm7' ho7 hs7 ht7
   go_wp2_with fail
   exact ⟨⟨k + 1,by omega,by go_num,HS7.out,HT7.out⟩,by simp [intOf];omega⟩
  ·obtain rfl:k = m:=by omega
   have he:o.preds.take k = o.preds:=List.take_of_length_le (by rw [HM.out];exact Nat.le_refl _)
   have HS8a:=HSK.out
   rw [he] at HS8a
   have HS8:=Lib.hid HS8a
   clear HS8a he
   go_upto_region 7 with (fail)
   have HCE:=Lib.hid (fun w' (hb:Below wr.heap.size wr w')=>(HS8.out.below hb).cell.2.2.1)
   have HI4:=Lib.hid (fun w' (hb:Below wr.heap.size wr w')=>H4K.out.below hb)
   refine z08 (fun w'=>Below wr.heap.size wr w') 6 (by kernel_rfl) (by kernel_rfl) (Below.refl _ _).drew ?_
   simp only [zC,zD,zE,zF]
   repeat (first
    | (go_big_quiet_want;refine z02 77 _ rfl ⟨B.gs,2,none⟩ _ rfl HCE.out Tryz.isAgg77 ?_;go_big_quiet_on;simp only [Act.put,zS,zA,zB])
    | (go_big_quiet_want;refine z0q 25 _ rfl g4 .u8 n 25 _ rfl HI4.out Tryz.underlying25 rfl HSN.out ?_;go_big_quiet_on;simp only [Act.put,zS,zA,zB])
    | (go_big_quiet_want;refine zgk rfl ?_;go_big_quiet_on;simp only [Act.put,zS,zA,zB])
    | go_big_quiet_step ((intro hs';rfl)))
   refine wpQuiet_nil ?_
   intro w6 hs6
   have HS6:=Lib.hid (HS8.out.below hs6)
   have HT6:=Lib.hid (HTK.out.below hs6)
   have HHM:=Lib.hid HS6.out.hm
   clear hs6 HCE HI4 HS8 HTK
   go_wp2_with (refine z3f rfl _ _ _ 77 25 92 rfl Tryz.idKey Tryz.underlying77 B.h _ HHM.out n HN.out _ rfl rfl rfl ?_)
   intro w7 hm7 ho7
   have hm7':=hm7.out
   rw [z1p HKN.out,show z58 (hs.filter fun n=>!decide (n ∈ o.preds)) ++ [(n,Value.agg #[])] = z58 ((hs.filter fun n=>!decide (n ∈ o.preds)) ++ [n]) by rw [z58,z58,List.map_append];rfl] at hm7'
   obtain ⟨hs7,ht7⟩:=HS6.out.putH ho7.out hm7'
   have HS7:=Lib.hid hs7
   have HT7:=Lib.hid (HT3.out.trans (HT6.out.trans ht7))
   clear hm7 hm7' ho7 hs7 ht7
   go_wp2_with fail
   refine bodyPost_end (results_none rfl _ _ _) rfl ?_
   exact ⟨rfl,HS7.out,HT7.out⟩
def z42 (P:Program) (t:TypeId) (name:String):Option (List FieldStep × Option (FuncId × Bool)):=(P.info? t).bind fun i=>(i.methods.find? (·.name == name)).map fun m=>(m.path.toList,m.func)
section
variable {P:Program} {w:World} {t:TypeId} {name:String} {f:FuncId}
theorem zcj (k:Nat) (elem:TypeId) (hr:z42 P t name = some ([],some (f,true))) (ht:P.underlying t = some (.pointer elem)) (v:Value):(method (k + 1) t v name).run P w = .ok (f,v) w:=by
 unfold z42 at hr
 cases hi:P.info? t with
 | none=>rw [hi] at hr;cases hr
 | some i =>
   rw [hi] at hr
   simp only [Option.bind_some,Option.map_eq_some_iff,Prod.mk.injEq] at hr
   obtain ⟨m,h1,h2,h3⟩:=hr
   unfold method
   simp only [Sem.run_bind,run_typeInfo w hi,Result.andThen_ok,h1,h2,follow,Sem.run_pure,h3,receiverAt,run_underlying ht,Place.get]
theorem zc9 (k:Nat) (elem:TypeId) (hr:z42 P t name = some ([],some (f,false))) (ht:P.underlying t = some (.pointer elem)) (p:Addr) (v:Value) (hl:(loadVar elem p).run P w = .ok v w):(method (k + 1) t (.pointer (some p)) name).run P w = .ok (f,v) w:=by
 unfold z42 at hr
 cases hi:P.info? t with
 | none=>rw [hi] at hr;cases hr
 | some i =>
   rw [hi] at hr
   simp only [Option.bind_some,Option.map_eq_some_iff,Prod.mk.injEq] at hr
   obtain ⟨m,h1,h2,h3⟩:=hr
   have hp:m.path.isEmpty = true:=by
    cases hm:m.path with
    | mk l=>rw [hm] at h2;simp only at h2;subst h2;rfl
   unfold method
   simp only [Sem.run_bind,run_typeInfo w hi,Result.andThen_ok,h1,h2,follow,Sem.run_pure,h3,receiverAt,run_underlying ht,Place.get,hp,if_true]
   have hs : ∀ n : String, (Builtin.ssaWrapNilChk_ #[t] t #[.pointer (some p), strVal "", strVal n]).run P w = .ok (.pointer (some p)) w := fun n => rfl
   simp only [hs,Result.andThen_ok,asAddr,Sem.run_pure,hl]
end
section
variable {P:Program} {o:Oper} {a:Act} {w:World} {K:Act → World → Prop} {Q:Exit → Act → World → Prop}
theorem zd8 {f : FuncId} {fn : Func} (hf : P.funcs[f]? = some fn) (hname : (fn.name == "runtime.NumGoroutine") = false) (hb : fn.body.isNone = false)
 {x:Operand} {name:String} {args:Array Operand} {ts:Array TypeId} (ho:o.op = .call { callee:=.invoke x name,args:=args,argTypes:=ts }) (t:TypeId) (v r:Value) (hx:a.eval x = .iface t v) (hm:∀ k,(method (k + 1) t v name).run P w = .ok (f,r) w) (vs:List Value) (hv:args.toList.map a.eval = vs) {C:Ending → World → Prop}
 (hc:Calls P f (#[r] ++ vs.toArray) w C) (h:∀ e w',C e w' → ∃ v,e = .returned v ∧ K (a.put o.dst v) w'):OpWp P o a w K Q:=by
 have hr:(execOp a.eval o).run P w = .ok (.enter f (#[r] ++ vs.toArray)) w:=by
  have h1 : ¬ fn.name = "runtime.NumGoroutine" := by simpa using hname
  have h2:¬ fn.body = none:=by intro e;rw [e] at hb;cases hb
  have ha:args.map a.eval = vs.toArray:=by rw [← hv,← Array.toList_map,Array.toArray_toList]
  obtain ⟨dst,op,ty,pos,after,guard⟩:=o
  simp only at ho
  subst ho
  have e:execOp a.eval { dst,op:=.call { callee:=.invoke x name,args:=args,argTypes:=ts },type:=ty,pos,after,guard } = invoke (.fn (.method name) #[]) (#[a.eval x] ++ args.map a.eval):=rfl
  rw [e,hx,ha]
  have e2:invoke (.fn (.method name) #[]) (#[Value.iface t v] ++ vs.toArray) = callMethod (.iface t v) name ((#[Value.iface t v] ++ vs.toArray).extract 1 (#[Value.iface t v] ++ vs.toArray).size):=by
   unfold invoke
   simp [go_sem]
  have e3:(#[Value.iface t v] ++ vs.toArray).extract 1 (#[Value.iface t v] ++ vs.toArray).size = vs.toArray:=by simp
  obtain ⟨d,hd⟩:∃ d,P.types.size + Made.depth = d + 1:=⟨P.types.size + Made.depth - 1,by unfold Made.depth;omega⟩
  rw [e2,e3]
  unfold callMethod
  simp only [Sem.run_bind,run_program,Result.andThen_ok,hd,hm d]
  simp [callFunc,Sem.run_bind,hf,h1,h2,go_sem]
 refine ⟨?_⟩
 unfold Oper.wp
 rw [hr,Oper.upon_enter]
 refine hc.mono fun e w' he=>?_
 obtain ⟨v,rfl,hk⟩:=h e w' he
 exact hk
theorem z1a {ops : Array Oper} {rest : List Oper} (hgd : o.guard = none) {f : FuncId} {fn : Func} (hf : P.funcs[f]? = some fn) (hname : (fn.name == "runtime.NumGoroutine") = false) (hb : fn.body.isNone = false)
 (x:Operand) (name:String) (args:Array Operand) (ts:Array TypeId) (ho:o.op = .call { callee:=.invoke x name,args:=args,argTypes:=ts }) (t:TypeId) (v r:Value) (hx:a.eval x = .iface t v) (hm:∀ k,(method (k + 1) t v name).run P w = .ok (f,r) w) (vs:List Value) (hv:args.toList.map a.eval = vs) {C:Ending → World → Prop}
 (hc:Calls P f (#[r] ++ vs.toArray) w C) (h:∀ e w',C e w' → ∃ v,e = .returned v ∧ wpList P ops Q rest (a.put o.dst v) w'):wpList P ops Q (o :: rest) a w :=
 wpList_plain hgd fun _ hK=>(zd8 hf hname hb ho t v r hx hm vs hv hc fun e w' he=>by
  obtain ⟨v,hv,hk⟩:=h e w' he
  exact ⟨v,hv,hK _ _ hk⟩).out
theorem z4e {ops : Array Oper} {rest : List Oper} (hw : Region.wanted o (yielded ops a.tmps) = true) {f : FuncId} {fn : Func} (hf : P.funcs[f]? = some fn) (hname : (fn.name == "runtime.NumGoroutine") = false) (hb : fn.body.isNone = false)
 (x:Operand) (name:String) (args:Array Operand) (ts:Array TypeId) (ho:o.op = .call { callee:=.invoke x name,args:=args,argTypes:=ts }) (t:TypeId) (v r:Value) (hx:a.eval x = .iface t v) (hm:∀ k,(method (k + 1) t v name).run P w = .ok (f,r) w) (vs:List Value) (hv:args.toList.map a.eval = vs) {C:Ending → World → Prop}
 (hc:Calls P f (#[r] ++ vs.toArray) w C) (h:∀ e w',C e w' → ∃ v,e = .returned v ∧ wpList P ops Q rest (a.put o.dst v) w'):wpList P ops Q (o :: rest) a w :=
 BigFrame.wpList_want hw fun _ hK=>(zd8 hf hname hb ho t v r hx hm vs hv hc fun e w' he=>by
  obtain ⟨v,hv,hk⟩:=h e w' he
  exact ⟨v,hv,hK _ _ hk⟩).out
end
theorem zii : z42 Tryz.prog 109 "Len" = some ([], some (80, false)) := by kernel_rfl
theorem z7u : z42 Tryz.prog 109 "Less" = some ([], some (188, false)) := by kernel_rfl
theorem z7v : z42 Tryz.prog 109 "Swap" = some ([], some (191, false)) := by kernel_rfl
theorem row_push : z42 Tryz.prog 109 "Push" = some ([], some (190, true)) := by kernel_rfl
theorem row_pop : z42 Tryz.prog 109 "Pop" = some ([], some (189, true)) := by kernel_rfl
end Go.Proofs.YtnbldbbbibpobaaGreatDoor
namespace Go.Proofs.YtnbldbbbibpobaaGreatDoor
def qAt (Q:List (List Nat)) (k:Nat):List Nat:=Q.getD k []
def z3q (Q:List (List Nat)) (i j:Nat):List (List Nat):=(Q.set i (qAt Q j)).set j (qAt Q i)
def Less (a b:List Nat):Prop:=z1s a b = -1
theorem z6o {Q:List (List Nat)} {k:Nat} (h:k < Q.length):qAt Q k = Q[k]:=by rw [qAt,List.getD_eq_getElem?_getD,List.getElem?_eq_getElem h];rfl
theorem z23 {Q:List (List Nat)} {i j k:Nat} (hi:i < Q.length) (hj:j < Q.length):qAt (z3q Q i j) k = if k = j then qAt Q i else if k = i then qAt Q j else qAt Q k:=by
 simp only [qAt,z3q,List.getD_eq_getElem?_getD]
 by_cases h1:k = j
 ·subst h1
  rw [if_pos rfl,List.getElem?_set_self (by rw [List.length_set];exact hj)]
  rfl
 ·rw [if_neg h1,List.getElem?_set_ne (Ne.symm h1)]
  by_cases h2:k = i
  ·subst h2
   rw [if_pos rfl,List.getElem?_set_self hi]
   rfl
  ·rw [if_neg h2,List.getElem?_set_ne (Ne.symm h2)]
theorem z3t {Q:List (List Nat)} {i j:Nat} (hi:i < Q.length) (hj:j < Q.length):(z3q Q i j).Perm Q:=by
 have h:=(Array.swap_perm (xs:=Q.toArray) (i:=i) (j:=j) (by simpa using hi) (by simpa using hj)).toList
 rw [z3q,z6o hi,z6o hj]
 simpa using h
theorem z6u {Q:List (List Nat)} {k:Nat} (h:k < Q.length):qAt Q k ∈ Q:=by rw [z6o h];exact List.getElem_mem _
def Len32 (Q:List (List Nat)):Prop:=∀ x ∈ Q,x.length = 32
theorem z4t {a b:List Nat} (h:Less a b):¬ Less b a:=fun k=>z5r h k
theorem zav {a b c:List Nat} (h:Less a b) (k:Less b c):Less a c:=z2x h k
theorem z41 {a b c:List Nat} (hb:b.length = 32) (hc:c.length = 32) (h:¬ Less a b) (k:¬ Less b c):¬ Less a c:=fun hl=>by
 by_cases e:b = c
 ·subst e;exact h hl
 ·exact h (zav hl ((z4r (by rw [hc,hb]) (Ne.symm e)).resolve_right k))
def HeapN (Q:List (List Nat)) (n:Nat):Prop:=∀ k,0 < k → k < n → ¬ Less (qAt Q k) (qAt Q ((k - 1) / 2))
structure UpOk (Q:List (List Nat)) (n j:Nat):Prop where
 one:∀ k,0 < k → k < n → k ≠ j → ¬ Less (qAt Q k) (qAt Q ((k - 1) / 2))
 two:∀ c,0 < c → c < n → (c - 1) / 2 = j → 0 < j → ¬ Less (qAt Q c) (qAt Q ((j - 1) / 2))
structure DownOk (Q:List (List Nat)) (n i:Nat):Prop where
 one:∀ k,0 < k → k < n → (k - 1) / 2 ≠ i → ¬ Less (qAt Q k) (qAt Q ((k - 1) / 2))
 two:∀ c,0 < c → c < n → (c - 1) / 2 = i → 0 < i → ¬ Less (qAt Q c) (qAt Q ((i - 1) / 2))
section
variable {Q:List (List Nat)} {n i j:Nat}
theorem UpOk.stop (h:UpOk Q n j) (hs:j = 0 ∨ ¬ Less (qAt Q j) (qAt Q ((j - 1) / 2))):HeapN Q n:=fun k h0 hk=>by
 by_cases e:k = j
 ·subst e
  rcases hs with hs | hs
  ·omega
  ·exact hs
 ·exact h.one k h0 hk e
theorem UpOk.swap (hl:Len32 Q) (hn:n ≤ Q.length) (h:UpOk Q n j) (hj0:0 < j) (hj:j < n) (hs:Less (qAt Q j) (qAt Q ((j - 1) / 2))):UpOk (z3q Q ((j - 1) / 2) j) n ((j - 1) / 2):=by
 obtain ⟨i,hi⟩:∃ i,(j - 1) / 2 = i:=⟨_,rfl⟩
 rw [hi] at hs ⊢
 have hij:i < j:=by omega
 have hiQ:i < Q.length:=by omega
 have hjQ:j < Q.length:=by omega
 have L:∀ k,k < n → (qAt Q k).length = 32:=fun k hk=>hl _ (z6u (by omega))
 refine ⟨fun k h0 hk hne=>?_,fun c h0 hc hci hi0=>?_⟩
 ·rw [z23 hiQ hjQ,z23 hiQ hjQ]
  by_cases hkj:k = j
  ·subst hkj
   rw [if_pos rfl,hi,if_neg (by omega),if_pos rfl]
   exact z4t hs
  ·rw [if_neg hkj,if_neg hne]
   by_cases hpj:(k - 1) / 2 = j
   ·rw [if_pos hpj]
    have:=h.two k h0 hk hpj hj0
    rwa [hi] at this
   ·rw [if_neg hpj]
    by_cases hpi:(k - 1) / 2 = i
    ·rw [if_pos hpi]
     have:=h.one k h0 hk hkj
     rw [hpi] at this
     exact fun e=>this (zav e hs)
    ·rw [if_neg hpi]
     exact h.one k h0 hk hkj
 ·have hii:i ≠ j:=by omega
  have h1:=h.one i hi0 (by omega) hii
  rw [z23 hiQ hjQ,z23 hiQ hjQ,if_neg (show ¬ (i - 1) / 2 = j by omega),if_neg (show ¬ (i - 1) / 2 = i by omega)]
  by_cases hcj:c = j
  ·subst hcj
   rw [if_pos rfl]
   exact h1
  ·rw [if_neg hcj,if_neg (show ¬ c = i by omega)]
   have h2:=h.one c h0 hc hcj
   rw [hci] at h2
   exact z41 (L i (by omega)) (L _ (by omega)) h2 h1
theorem DownOk.stop (h:DownOk Q n i) (hs:∀ c,0 < c → c < n → (c - 1) / 2 = i → ¬ Less (qAt Q c) (qAt Q i)):HeapN Q n:=fun k h0 hk=>by
 by_cases e:(k - 1) / 2 = i
 ·rw [e];exact hs k h0 hk e
 ·exact h.one k h0 hk e
theorem DownOk.swap (hn:n ≤ Q.length) (h:DownOk Q n i) (hj0:0 < j) (hj:j < n) (hji:(j - 1) / 2 = i) (hmin:∀ c,0 < c → c < n → (c - 1) / 2 = i → ¬ Less (qAt Q c) (qAt Q j)) (hs:Less (qAt Q j) (qAt Q i)):DownOk (z3q Q i j) n j:=by
 have hij:i < j:=by omega
 have hiQ:i < Q.length:=by omega
 have hjQ:j < Q.length:=by omega
 refine ⟨fun k h0 hk hne=>?_,fun c h0 hc hcj hj0=>?_⟩
 ·rw [z23 hiQ hjQ,z23 hiQ hjQ,if_neg hne]
  by_cases hkj:k = j
  ·subst hkj
   rw [if_pos rfl,if_pos hji]
   exact z4t hs
  ·rw [if_neg hkj]
   by_cases hki:k = i
   ·subst hki
    rw [if_pos rfl,if_neg (by omega)]
    exact h.two j hj0 hj hji h0
   ·rw [if_neg hki]
    by_cases hpi:(k - 1) / 2 = i
    ·rw [if_pos hpi]
     exact hmin k h0 hk hpi
    ·rw [if_neg hpi]
     exact h.one k h0 hk hpi
 ·rw [z23 hiQ hjQ,z23 hiQ hjQ,if_neg (show ¬ c = j by omega),if_neg (show ¬ c = i by omega),hji,if_neg (show ¬ i = j by omega),if_pos rfl]
  have:=h.one c h0 hc (by omega)
  rwa [hcj] at this
theorem HeapN.least (hl:Len32 Q) (hn:n ≤ Q.length) (h:HeapN Q n):∀ (k:Nat),k < n → ¬ Less (qAt Q k) (qAt Q 0)
 | 0,_=>fun e=>z5r e e
 | k + 1, hk => by
   have h1:=h (k + 1) (by omega) hk
   have h2:=HeapN.least hl hn h ((k + 1 - 1) / 2) (by omega)
   have L:∀ k,k < n → (qAt Q k).length = 32:=fun k hk=>hl _ (z6u (by omega))
   exact z41 (L _ (by omega)) (L _ (by omega)) h1 h2
termination_by k=>k
decreasing_by omega
theorem HeapN.first (hl:Len32 Q) (h:HeapN Q Q.length) (h0:0 < Q.length):∀ x ∈ Q,x = qAt Q 0 ∨ z1s (qAt Q 0) x = -1:=fun x hx=>by
 obtain ⟨k,hk,rfl⟩:=List.getElem_of_mem hx
 have:=h.least hl (Nat.le_refl _) k hk
 rw [z6o hk] at this
 by_cases e:Q[k] = qAt Q 0
 ·exact .inl e
 ·exact .inr ((z4r (by rw [hl _ hx,hl _ (z6u h0)]) e).resolve_left this)
theorem HeapN.nil:HeapN [] 0:=fun k _ hk=>by omega
theorem HeapN.push (h:HeapN Q Q.length) (x:List Nat):UpOk (Q ++ [x]) (Q ++ [x]).length Q.length:=by
 have hk:∀ k,k < Q.length → qAt (Q ++ [x]) k = qAt Q k:=fun k hk=>by
  rw [qAt,qAt,List.getD_eq_getElem?_getD,List.getD_eq_getElem?_getD,List.getElem?_append_left hk]
 refine ⟨fun k h0 hkn hne=>?_,fun c h0 hc hcj _=>?_⟩
 ·have:k < Q.length:=by simp at hkn;omega
  rw [hk k this,hk _ (by omega)]
  exact h k h0 this
 ·simp at hc;omega
theorem HeapN.drop (h:HeapN Q Q.length) (h0:0 < Q.length):DownOk (z3q Q 0 (Q.length - 1)) (Q.length - 1) 0:=by
 refine ⟨fun k hk0 hk hne=>?_,fun c _ _ _ e=>by omega⟩
 rw [z23 h0 (by omega),z23 h0 (by omega),if_neg (by omega),if_neg (by omega),if_neg (by omega),if_neg (by omega)]
 exact h k hk0 (by omega)
end
open Go.RowKit Go.BigFrame
theorem zb1 {P:Program} (w:World) (a b:Addr) (n m c d:Nat) (xs ys:List Int) (hx:xs.length = n) (hy:ys.length = m) (h1:∀ j x,xs[j]? = some x → w.cell? (a.add j) = some (.int .u8 x)) (h2:∀ j x,ys[j]? = some x → w.cell? (b.add j) = some (.int .u8 x)) :
 (Extern.BytealgCompare.compare #[.slice (some a) n c,.slice (some b) m d]).run P w = .ok (.int .i64 (Lib.compareBytes (Lib.bytesOf xs) (Lib.bytesOf ys))) w:=by
 subst hx hy
 have l1:=Lib.run_loadBytesX (P:=P) w xs a .empty h1
 have l2:=Lib.run_loadBytesX (P:=P) w ys b .empty h2
 have he:∀ zs:List UInt8,(⟨ByteArray.empty.data ++ zs.toArray⟩:ByteArray) = ⟨zs.toArray⟩:=fun zs=>by
  apply ByteArray.ext
  show (#[]:Array UInt8) ++ zs.toArray = zs.toArray
  simp
 rw [he] at l1 l2
 change Sem.run P (do pure (goInt (Extern.BytealgCompare.cmp (← Extern.Bytes.bytesOf (.slice (some a) xs.length c)) (← Extern.Bytes.bytesOf (.slice (some b) ys.length d))))) w = _
 simp only [Extern.Bytes.bytesOf,Sem.run_bind,Sem.run_pure,l1,l2,Result.andThen]
 rw [Lib.cmp_eq]
 rfl
theorem zai:∀ (a b:List UInt8),a.length = b.length → Lib.compareBytes a b = z1s (z10 a) (z10 b)
 | [],[],_=>rfl
 | [],_ :: _,h=>by cases h
 | _ :: _,[],h=>by cases h
 | x :: a, y :: b, h => by
   have ih:=zai a b (by simpa using h)
   rw [Lib.compareBytes,ih]
   simp only [UInt8.lt_iff_toNat_lt]
   rw [show z10 (x :: a) = x.toNat :: z10 a from rfl,show z10 (y :: b) = y.toNat :: z10 b from rfl,z1s]
theorem z8r (l:List Nat):Lib.bytesOf (l.map fun (x:Nat)=>(x:Int)) = txt l:=by
 rw [Lib.bytesOf,List.map_map,txt]
 exact List.map_congr_left fun x _=>rfl
theorem z6z (g h c d:Nat) (t u:TypeId) (a b:List Nat) (ha:IdOk a) (hb:IdOk b) (w:World) (h1:Blk g t .u8 a w) (h2:Blk h u .u8 b w) :
 Calls Tryz.prog 105 #[.slice (some ⟨g,0,none⟩) 32 c,.slice (some ⟨h,0,none⟩) 32 d] w fun e w'=>e = .returned (.int .i64 (z1s a b)) ∧ w' = w:=by
 have hr:=zb1 (P:=Tryz.prog) w ⟨g,0,none⟩ ⟨h,0,none⟩ 32 32 c d (a.map fun (x:Nat)=>(x:Int)) (b.map fun (x:Nat)=>(x:Int)) (by rw [List.length_map,ha.1]) (by rw [List.length_map,hb.1])
  (fun j x hj=>by
   rw [Addr.add_lit,Nat.zero_add,Lib.cell_of_heap h1 j,List.getElem?_toArray,z06,List.getElem?_map]
   rw [List.getElem?_map] at hj
   cases hq:a[j]? with
   | none=>rw [hq] at hj;cases hj
   | some y=>rw [hq] at hj;simp only [Option.map_some,Option.some.injEq] at hj ⊢;rw [← hj])
  (fun j x hj=>by
   rw [Addr.add_lit,Nat.zero_add,Lib.cell_of_heap h2 j,List.getElem?_toArray,z06,List.getElem?_map]
   rw [List.getElem?_map] at hj
   cases hq:b[j]? with
   | none=>rw [hq] at hj;cases hj
   | some y=>rw [hq] at hj;simp only [Option.map_some,Option.some.injEq] at hj ⊢;rw [← hj])
 rw [z8r,z8r,zai _ _ (by rw [z2f,z2f,ha.1,hb.1]),z3s ha.2,z3s hb.2] at hr
 clear h1 h2
 go_enter Tryz.func105,Tryz.ntmps105
 go_wp2
 rw [run_callFunc_extern Tryz.func134 (by kernel_rfl) (by kernel_rfl) (by kernel_rfl) (e:=Extern.BytealgCompare.compare) (by kernel_rfl),hr]
 simp only [Result.andThen]
 rw [Oper.upon_value]
 go_wp2
 go_ret
 exact ⟨rfl,rfl⟩
theorem z9c (a b:List Nat) (ha:IdOk a) (hb:IdOk b) (w:World) :
 Calls Tryz.prog 85 #[.agg (z06 .u8 a).toArray,.agg (z06 .u8 b).toArray] w fun e w'=>e = .returned (.int .i64 (z1s a b)) ∧ Below w.heap.size w w':=by
 have b1:Below w.heap.size w (w.alloc (.cells (z06 .u8 a).toArray 25)):=(Below.refl _ _).alloc (Nat.le_refl _) _
 have x1:Blk w.heap.size 25 .u8 a (w.alloc (.cells (z06 .u8 a).toArray 25)):=heap_alloc_new w _
 have s1:(w.alloc (.cells (z06 .u8 a).toArray 25)).heap.size = w.heap.size + 1:=World.size_alloc _ _
 have b2:Below (w.alloc (.cells (z06 .u8 a).toArray 25)).heap.size (w.alloc (.cells (z06 .u8 a).toArray 25)) ((w.alloc (.cells (z06 .u8 a).toArray 25)).alloc (.cells (z06 .u8 b).toArray 25)):=(Below.refl _ _).alloc (Nat.le_refl _) _
 have x2:Blk (w.alloc (.cells (z06 .u8 a).toArray 25)).heap.size 25 .u8 b ((w.alloc (.cells (z06 .u8 a).toArray 25)).alloc (.cells (z06 .u8 b).toArray 25)):=heap_alloc_new _ _
 rw [s1] at x2
 have HX1:=Lib.hid (x1.below b2)
 have HX2:=Lib.hid x2
 have HB:=Lib.hid (b1.trans (b2.mono b1.size))
 have HA:=Lib.hid ha
 have HBB:=Lib.hid hb
 clear b1 x1 s1 b2 x2 ha hb
 go_enter Tryz.func85,Tryz.ntmps85
 go_upto_region 1 with (fail)
 obtain ⟨w2,hw2⟩:∃ x,x = ((w.alloc (.cells (z06 .u8 a).toArray 25)).alloc (.cells (z06 .u8 b).toArray 25)):=⟨_,rfl⟩
 rw [← hw2] at HX1 HX2 HB ⊢
 clear hw2
 have HC:=Lib.hid (fun w' c d (q:Below w2.heap.size w2 w')=>z6z w.heap.size (w.heap.size + 1) c d _ _ a b HA.out HBB.out w' (HX1.out.below q) (HX2.out.below q))
 refine z09 (fun w'=>Below w2.heap.size w2 w') (by kernel_rfl) (by kernel_rfl) (Below.refl _ _).drew ?_
 repeat (first
  | go_big_quiet_skip
  | go_big_quiet_step ((intro hs';first
   | (go_at_call 105;exact (HC.out _ _ _ hs').mono fun e w' h=>⟨h.1,h.2 ▸ hs'⟩)
   | rfl)))
 refine wpQuiet_nil ?_
 intro w4 hb4
 go_wp2_with fail
 go_ret
 exact ⟨rfl,HB.out.trans (hb4.mono HB.out.size)⟩
structure QAt (q:Nat) (v:Value) (Q:List (List Nat)) (w:World):Prop where
 cell:Cells q 110 #[v] w
 row:OwnI 0 25 v Q w
 ids:Ids Q
def QO (q:Nat) (v:Value):Nat → Prop:=fun b=>b = q ∨ v.ownBlock = some b
section
variable {q:Nat} {v u:Value} {Q R:List (List Nat)} {w w':World} {O:Nat → Prop}
theorem QAt.ne (h:QAt q v Q w):v.ownBlock ≠ some q:=z0x h.row h.cell (by decide)
theorem QAt.below (h:QAt q v Q w) (k:Below w.heap.size w w'):QAt q v Q w':=⟨h.cell.below k,h.row.below k,h.ids⟩
theorem QAt.only (h:QAt q v Q w) (k:Only O w w') (hO:∀ b,QO q v b → ¬ O b):QAt q v Q w':=⟨h.cell.only k (hO _ (.inl rfl)),h.row.only k (fun _ hb=>hO _ (.inr hb)),h.ids⟩
theorem QAt.lt (h:QAt q v Q w) {b:Nat} (hb:QO q v b):b < w.heap.size:=by
 rcases hb with rfl | hb
 ·exact h.cell.lt
 ·exact (World.ownsRow.lt h.row b hb).2
theorem QAt.form (h:QAt q v Q w):∃ ao c,v = .slice ao Q.length c:=h.row.form
theorem QAt.at0 (h:QAt q v Q w):w.cell? ⟨q,0,none⟩ = some v:=by rw [h.cell.at 0];rfl
theorem QAt.len32 (h:QAt q v Q w):Len32 Q:=fun x hx=>(h.ids x hx).1
theorem zgp (h:w.cell? ⟨q,0,none⟩ = some v):(loadVar 110 ⟨q,0,none⟩).run Tryz.prog w = .ok v w:=z3g w _ _ _ h Tryz.isAgg110
theorem OwnI.cutLast {B g n c:Nat} {e:TypeId} (h:OwnI B e (.slice (some ⟨g,0,none⟩) n c) Q w) (hQ:Ids Q) (hn:n = Q.length):OwnI B e (.slice (some ⟨g,0,none⟩) (n - 1) c) Q.dropLast w:=by
 subst hn
 rcases h.2 with ⟨h1,_⟩ | ⟨g',cap,cur,h1,hB,hh,h2,h3,h4,h5⟩
 ·cases h1
 ·cases h1
  have hl:Q.dropLast.length = Q.length - 1:=List.length_dropLast
  have hI:Ids Q.dropLast:=fun x hx=>hQ x (List.dropLast_subset _ hx)
  refine ⟨by rw [z14 hI],.inr ⟨g,c,cur,by rw [hl],hB,hh,by omega,h3,h4,?_⟩⟩
  have hp:z1w Q.dropLast = (z1w Q).take ((Q.length - 1) * 32):=by
   have hlt:(Q.take (Q.length - 1)).length = Q.length - 1:=by rw [List.length_take];omega
   have hIt:Ids (Q.take (Q.length - 1)):=fun x hx=>hQ x (List.take_subset _ _ hx)
   have e:z1w Q = z1w (Q.take (Q.length - 1)) ++ z1w (Q.drop (Q.length - 1)):=by rw [← z2j,List.take_append_drop]
   rw [List.dropLast_eq_take,e]
   obtain ⟨A,hA⟩:∃ A,Q.take (Q.length - 1) = A:=⟨_,rfl⟩
   rw [hA] at hlt hIt ⊢
   have hfl:=z14 hIt
   rw [hlt] at hfl
   rw [List.take_append_of_le_length (by rw [hfl];exact Nat.le_refl _),List.take_of_length_le (by rw [hfl];exact Nat.le_refl _)]
  rw [hp,← h5,List.take_take,hl]
  congr 1
  omega
end
theorem zf2 (ao:Option Addr) (n c:Nat) (w:World):Calls Tryz.prog 80 #[.slice ao n c] w fun e w'=>e = .returned (.int .i64 n) ∧ w' = w:=by
 go_enter Tryz.func80,Tryz.ntmps80
 go_wp2_with fail
 go_ret
 exact ⟨rfl,rfl⟩
theorem qu_less (g n c i j:Nat) (Q:List (List Nat)) (w:World) (h:OwnI 0 25 (.slice (some ⟨g,0,none⟩) n c) Q w) (hQ:Ids Q) (hn:Q.length = n) (hm:n ≤ 1000000) (hi:i < n) (hj:j < n) :
 Calls Tryz.prog 188 #[.slice (some ⟨g,0,none⟩) n c,.int .i64 i,.int .i64 j] w fun e w'=>e = .returned (.bool (decide (z1s (qAt Q i) (qAt Q j) < 0))) ∧ Below w.heap.size w w':=by
 have hat:=h.at hQ
 have g1:=hat.get (i:=i) (by omega)
 have g2:=hat.get (i:=j) (by omega)
 have i1:=Ids.getD hQ (i:=i) (by omega)
 have i2:=Ids.getD hQ (i:=j) (by omega)
 obtain ⟨b,ob,e,hbl⟩:=hat.some (by omega)
 cases e
 rw [Nat.zero_add] at g1 g2
 have HX:=Lib.hid (fun w' (k:Below w.heap.size w w')=>z0g g1 k hbl)
 have HY:=Lib.hid (fun w' (k:Below w.heap.size w w')=>z0g g2 k hbl)
 obtain ⟨x,hx⟩:∃ x,Q.getD i [] = x:=⟨_,rfl⟩
 obtain ⟨y,hy⟩:∃ x,Q.getD j [] = x:=⟨_,rfl⟩
 rw [hx] at HX i1
 rw [hy] at HY i2
 rw [show qAt Q i = x from hx,show qAt Q j = y from hy]
 have HI:=Lib.hid i1
 have HJ:=Lib.hid i2
 have HS1:=Lib.hid (show (Tryz.prog.info? 25).map (·.size) = some x.length by rw [i1.1];exact Tryz.sizeI)
 have HS2:=Lib.hid (show (Tryz.prog.info? 25).map (·.size) = some y.length by rw [i2.1];exact Tryz.sizeI)
 have hin:(i:Int) < (n:Int):=by omega
 have hjn:(j:Int) < (n:Int):=by omega
 obtain ⟨r,hr⟩:∃ r,z1s x y = r:=⟨_,rfl⟩
 have hrc:=z4s x y
 have HC:=Lib.hid (fun w1=>z9c x y HI.out HJ.out w1)
 rw [hr] at hrc HC ⊢
 clear h hQ hat g1 g2 i1 i2 hx hy hr hbl
 go_enter Tryz.func188,Tryz.ntmps188
 go_upto_region 1 with (fail)
 refine z08 (fun w'=>Below w.heap.size w w') 10 (by kernel_rfl) (by kernel_rfl) (Below.refl _ _).drew ?_
 simp only [zC,zD,zE,zF]
 repeat (first
  | (go_big_quiet_want;refine z0c 25 _ rfl g (i * 32) x _ rfl HX.out Tryz.underlying25 rfl HS1.out ?_;go_big_quiet_on;simp only [Act.put,zS,zA,zB])
  | (go_big_quiet_want;refine z0c 25 _ rfl g (j * 32) y _ rfl HY.out Tryz.underlying25 rfl HS2.out ?_;go_big_quiet_on;simp only [Act.put,zS,zA,zB])
  | go_big_quiet_step ((intro hs';first
   | (go_at_call 85;exact (HC.out _).mono fun e w' h=>⟨h.1,hs'.trans (h.2.mono hs'.size)⟩)
   | rfl)))
 refine wpQuiet_nil ?_
 intro w2 hs2
 have HB2:=Lib.hid hs2
 clear hs2
 go_wp2_with fail
 go_ret
 exact ⟨by congr 2,HB2.out⟩
section
variable {o:Oper} {a:Act} {w:World} {K:Act → World → Prop} {Q:Exit → Act → World → Prop}
theorem zes (hg:o.guard = none) (x y:Operand) (ho:o.op = .store 25 x y) (hd:o.dst = none) (g n c i:Nat) (L:List (List Nat)) (l:List Nat) (hn:n = L.length) (hx:a.eval x = .pointer (some ⟨g,i * 32,none⟩)) (hy:a.eval y = .agg (z06 .u8 l).toArray)
 (hO:OwnI 0 25 (.slice (some ⟨g,0,none⟩) n c) L w) (hL:Ids L) (hi:i < n) (hl:l.length = 32) (ll:∀ y ∈ l,y < 256) (h:∀ w',OwnI 0 25 (.slice (some ⟨g,0,none⟩) n c) (L.set i l) w' → But g w w' → K (a.put o.dst undef) w'):OpWp Tryz.prog o a w K Q :=
 z1i (ops:=#[]) hg (z61 hg 25 x y ho hd 0 g n c i (i * 32) 25 L l hn (Nat.mul_comm _ _) hx hy hO hL hi hl ll Tryz.sizeI (fun w' h1 h2=>⟨rfl,by
  have:=h w' h1.out h2.out
  rw [hd] at this
  exact this⟩))
end
theorem z9z (g n c j:Nat) (hj:j < n) (w:World):(Instr.indexAt 110 (.slice (some ⟨g,0,none⟩) n c) (.int .i64 (j:Int))).run Tryz.prog w = .ok (.pointer (some ⟨g,j * 32,none⟩)) w:=by
 have hjn:(j:Int) < (n:Int):=by omega
 go_simp
theorem qu_swap (g n c i j:Nat) (Q:List (List Nat)) (w:World) (h:OwnI 0 25 (.slice (some ⟨g,0,none⟩) n c) Q w) (hQ:Ids Q) (hn:n = Q.length) (hi:i < n) (hj:j < n) :
 Calls Tryz.prog 191 #[.slice (some ⟨g,0,none⟩) n c,.int .i64 i,.int .i64 j] w fun e w'=>e = .returned (.tuple #[]) ∧ OwnI 0 25 (.slice (some ⟨g,0,none⟩) n c) (z3q Q i j) w' ∧ Only (fun b=>b = g) w w':=by
 have i1:=Ids.getD hQ (i:=i) (by omega)
 have i2:=Ids.getD hQ (i:=j) (by omega)
 have HX:=Lib.hid (fun w' (k:OwnI 0 25 (.slice (some ⟨g,0,none⟩) n c) Q w')=>show w'.rangeAt g (i * 32) (z06 .u8 (Q.getD i [])) from by
  have hat:=k.at hQ
  have g1:=hat.get (i:=i) (by omega)
  obtain ⟨b,ob,e,hbl⟩:=hat.some (by omega)
  cases e
  rwa [Nat.zero_add] at g1)
 have HY:=Lib.hid (fun w' (k:OwnI 0 25 (.slice (some ⟨g,0,none⟩) n c) Q w')=>show w'.rangeAt g (j * 32) (z06 .u8 (Q.getD j [])) from by
  have hat:=k.at hQ
  have g1:=hat.get (i:=j) (by omega)
  obtain ⟨b,ob,e,hbl⟩:=hat.some (by omega)
  cases e
  rwa [Nat.zero_add] at g1)
 have HSW:=Shut.mk (show z3q Q i j = (Q.set i (Q.getD j [])).set j (Q.getD i []) from rfl)
 obtain ⟨SW,hSW⟩:∃ S,z3q Q i j = S:=⟨_,rfl⟩
 rw [hSW] at HSW ⊢
 obtain ⟨x,hx⟩:∃ x,Q.getD i [] = x:=⟨_,rfl⟩
 obtain ⟨y,hy⟩:∃ x,Q.getD j [] = x:=⟨_,rfl⟩
 rw [hx] at HX i1 HSW
 rw [hy] at HY i2 HSW
 have HXI:=Lib.hid i1
 have HYI:=Lib.hid i2
 have HSX:=Lib.hid (show (Tryz.prog.info? 25).map (·.size) = some x.length by rw [i1.1];exact Tryz.sizeI)
 have HSY:=Lib.hid (show (Tryz.prog.info? 25).map (·.size) = some y.length by rw [i2.1];exact Tryz.sizeI)
 have HII:=Lib.hid (fun w'=>z9z g n c i hi w')
 have HIJ:=Lib.hid (fun w'=>z9z g n c j hj w')
 have HN:=Lib.hid hn
 have HQ:=Lib.hid hQ
 have HI:=Lib.hid hi
 have HJ:=Lib.hid hj
 have hr00:OwnI 0 25 (.slice (some ⟨g,0,none⟩) n c) Q w.drew:=h.below (Below.refl _ _).drew
 have HR0:=Lib.hid hr00
 have HQS:=Lib.hid (show Ids (Q.set i y) from hQ.set i i2.1 i2.2)
 have hjn:(j:Int) < (n:Int):=by omega
 clear h hQ i1 i2 hx hy hSW hn hr00
 go_enter Tryz.func191,Tryz.ntmps191
 go_upto_region 0 with (fail)
 refine z0f 14 (fun q V w'=>Val q V 0 (.slice (some ⟨g,0,none⟩) n c) ∧ Val q V 1 (.int .i64 i) ∧ Val q V 2 (.slice (some ⟨g,0,none⟩) n c) ∧ Val q V 3 (.int .i64 j) ∧ Val q V 4 (.slice (some ⟨g,0,none⟩) n c) ∧ Val q V 5 (.int .i64 j) ∧ Val q V 6 (.pointer (some ⟨g,j * 32,none⟩)) ∧ Val q V 7 (.agg (z06 .u8 y).toArray) ∧ Val q V 8 (.slice (some ⟨g,0,none⟩) n c) ∧ Val q V 9 (.int .i64 i) ∧ Val q V 10 (.pointer (some ⟨g,i * 32,none⟩)) ∧ Val q V 11 (.agg (z06 .u8 x).toArray) ∧ Val q V 12 (.pointer (some ⟨g,i * 32,none⟩)) ∧ Only (fun b=>b = g) w w' ∧ Late q 7 13 ∧ Late q 11 13 ∧ (q 13 = false → OwnI 0 25 (.slice (some ⟨g,0,none⟩) n c) Q w') ∧ (q 13 = true → OwnI 0 25 (.slice (some ⟨g,0,none⟩) n c) (Q.set i y) w')) (fun _=>undef) (by kernel_rfl) (by kernel_rfl) (by kernel_rfl) (by simp only [zC,zD,z0i,Act.put,zS,zA,zB]) ⟨Val.none,Val.none,Val.none,Val.none,Val.none,Val.none,Val.none,Val.none,Val.none,Val.none,Val.none,Val.none,Val.none,Only.of (Below.refl _ _).drew,Late.none,Late.none,(fun _=>HR0.out),(fun h=>by cases h)⟩ ?_ ?_
 ·simp only [zC,zD,z0i,Nat.zero_add,Nat.reduceAdd,Act.put,zS,zA,zB]
  refine zQc ?_ (zQc ?_ (zQc ?_ (zQc ?_ (zQc ?_ (zQc ?_ (zQc ?_ (zQc ?_ (zQc ?_ (zQc ?_ (zQc ?_ (zQc ?_ (zQc ?_ (zQc ?_ (zQn))))))))))))))
  all_goals (refine zQf rfl ?_;rintro q V wq hr hu ⟨h0,h1,h2,h3,h4,h5,h6,h7,h8,h9,h10,h11,h12,hb,hl7,hl11,hr0,hr1⟩ K hK)
  ·exact z0h (.tmp 0) rfl _ rfl (hK _ _ ⟨.same,h1.nd,h2.nd,h3.nd,h4.nd,h5.nd,h6.nd,h7.nd,h8.nd,h9.nd,h10.nd,h11.nd,h12.nd,hb,hl7.nd,hl11.nd,(fun hs=>hr0 (by rwa [z0y (by decide)] at hs)),(fun hs=>hr1 (by rwa [z0y (by decide)] at hs))⟩)
  ·exact z0h (.tmp 1) rfl _ rfl (hK _ _ ⟨h0.nd,.same,h2.nd,h3.nd,h4.nd,h5.nd,h6.nd,h7.nd,h8.nd,h9.nd,h10.nd,h11.nd,h12.nd,hb,hl7.nd,hl11.nd,(fun hs=>hr0 (by rwa [z0y (by decide)] at hs)),(fun hs=>hr1 (by rwa [z0y (by decide)] at hs))⟩)
  ·exact z0h (.tmp 0) rfl _ rfl (hK _ _ ⟨h0.nd,h1.nd,.same,h3.nd,h4.nd,h5.nd,h6.nd,h7.nd,h8.nd,h9.nd,h10.nd,h11.nd,h12.nd,hb,hl7.nd,hl11.nd,(fun hs=>hr0 (by rwa [z0y (by decide)] at hs)),(fun hs=>hr1 (by rwa [z0y (by decide)] at hs))⟩)
  ·exact z0h (.tmp 2) rfl _ rfl (hK _ _ ⟨h0.nd,h1.nd,h2.nd,.same,h4.nd,h5.nd,h6.nd,h7.nd,h8.nd,h9.nd,h10.nd,h11.nd,h12.nd,hb,hl7.nd,hl11.nd,(fun hs=>hr0 (by rwa [z0y (by decide)] at hs)),(fun hs=>hr1 (by rwa [z0y (by decide)] at hs))⟩)
  ·exact z0h (.tmp 0) rfl _ rfl (hK _ _ ⟨h0.nd,h1.nd,h2.nd,h3.nd,.same,h5.nd,h6.nd,h7.nd,h8.nd,h9.nd,h10.nd,h11.nd,h12.nd,hb,hl7.nd,hl11.nd,(fun hs=>hr0 (by rwa [z0y (by decide)] at hs)),(fun hs=>hr1 (by rwa [z0y (by decide)] at hs))⟩)
  ·exact z0h (.tmp 2) rfl _ rfl (hK _ _ ⟨h0.nd,h1.nd,h2.nd,h3.nd,h4.nd,.same,h6.nd,h7.nd,h8.nd,h9.nd,h10.nd,h11.nd,h12.nd,hb,hl7.nd,hl11.nd,(fun hs=>hr0 (by rwa [z0y (by decide)] at hs)),(fun hs=>hr1 (by rwa [z0y (by decide)] at hs))⟩)
  ·exact z2y 110 (.tmp 10) (.tmp 11) rfl _ _ _ (h4 (hr { on:=4,ground:=.data } (by simp) rfl)) (h5 (hr { on:=5,ground:=.data } (by simp) rfl)) HIJ.out (hK _ _ ⟨h0.nd,h1.nd,h2.nd,h3.nd,h4.nd,h5.nd,.same,h7.nd,h8.nd,h9.nd,h10.nd,h11.nd,h12.nd,hb,hl7.nd,hl11.nd,(fun hs=>hr0 (by rwa [z0y (by decide)] at hs)),(fun hs=>hr1 (by rwa [z0y (by decide)] at hs))⟩)
  ·exact z83 25 (.tmp 12) rfl g (j * 32) y _ (h6 (hr { on:=6,ground:=.data } (by simp) rfl)) (HY.out _ (hr0 (hl7.not hu))) Tryz.underlying25 rfl HSY.out (hK _ _ ⟨h0.nd,h1.nd,h2.nd,h3.nd,h4.nd,h5.nd,h6.nd,.same,h8.nd,h9.nd,h10.nd,h11.nd,h12.nd,hb,hl7.nd,hl11.nd,(fun hs=>hr0 (by rwa [z0y (by decide)] at hs)),(fun hs=>hr1 (by rwa [z0y (by decide)] at hs))⟩)
  ·exact z0h (.tmp 0) rfl _ rfl (hK _ _ ⟨h0.nd,h1.nd,h2.nd,h3.nd,h4.nd,h5.nd,h6.nd,h7.nd,.same,h9.nd,h10.nd,h11.nd,h12.nd,hb,hl7.nd,hl11.nd,(fun hs=>hr0 (by rwa [z0y (by decide)] at hs)),(fun hs=>hr1 (by rwa [z0y (by decide)] at hs))⟩)
  ·exact z0h (.tmp 1) rfl _ rfl (hK _ _ ⟨h0.nd,h1.nd,h2.nd,h3.nd,h4.nd,h5.nd,h6.nd,h7.nd,h8.nd,.same,h10.nd,h11.nd,h12.nd,hb,hl7.nd,hl11.nd,(fun hs=>hr0 (by rwa [z0y (by decide)] at hs)),(fun hs=>hr1 (by rwa [z0y (by decide)] at hs))⟩)
  ·exact z2y 110 (.tmp 14) (.tmp 15) rfl _ _ _ (h8 (hr { on:=8,ground:=.data } (by simp) rfl)) (h9 (hr { on:=9,ground:=.data } (by simp) rfl)) HII.out (hK _ _ ⟨h0.nd,h1.nd,h2.nd,h3.nd,h4.nd,h5.nd,h6.nd,h7.nd,h8.nd,h9.nd,.same,h11.nd,h12.nd,hb,hl7.nd,hl11.nd,(fun hs=>hr0 (by rwa [z0y (by decide)] at hs)),(fun hs=>hr1 (by rwa [z0y (by decide)] at hs))⟩)
  ·exact z83 25 (.tmp 16) rfl g (i * 32) x _ (h10 (hr { on:=10,ground:=.data } (by simp) rfl)) (HX.out _ (hr0 (hl11.not hu))) Tryz.underlying25 rfl HSX.out (hK _ _ ⟨h0.nd,h1.nd,h2.nd,h3.nd,h4.nd,h5.nd,h6.nd,h7.nd,h8.nd,h9.nd,h10.nd,.same,h12.nd,hb,hl7.nd,hl11.nd,(fun hs=>hr0 (by rwa [z0y (by decide)] at hs)),(fun hs=>hr1 (by rwa [z0y (by decide)] at hs))⟩)
  ·exact z2y 110 (.tmp 6) (.tmp 7) rfl _ _ _ (h0 (hr { on:=0,ground:=.data } (by simp) rfl)) (h1 (hr { on:=1,ground:=.data } (by simp) rfl)) HII.out (hK _ _ ⟨h0.nd,h1.nd,h2.nd,h3.nd,h4.nd,h5.nd,h6.nd,h7.nd,h8.nd,h9.nd,h10.nd,h11.nd,.same,hb,hl7.nd,hl11.nd,(fun hs=>hr0 (by rwa [z0y (by decide)] at hs)),(fun hs=>hr1 (by rwa [z0y (by decide)] at hs))⟩)
  ·refine zes rfl (.tmp 18) (.tmp 13) rfl rfl g n c i Q y HN.out (h12 (hr { on:=12,ground:=.data } (by simp) rfl)) (h7 (hr { on:=7,ground:=.data } (by simp) rfl)) (hr0 hu) HQ.out HI.out HYI.out.1 HYI.out.2 ?_
   intro w' ho' hbt
   have hbn:Only (fun b=>b = g) w w':=hb.but hbt (.inl rfl)
   exact (hK _ _ ⟨h0.nd,h1.nd,h2.nd,h3.nd,h4.nd,h5.nd,h6.nd,h7.nd,h8.nd,h9.nd,h10.nd,h11.nd,h12.nd,hbn,Late.same (hr { on:=7,ground:=.data } (by simp) rfl),Late.same (hr { on:=11,ground:=.phase } (by simp) rfl),(fun hs=>by simp at hs),(fun _=>ho')⟩)
 rintro q V wq hall ⟨h0,h1,h2,h3,h4,h5,h6,h7,h8,h9,h10,h11,h12,hb,hl7,hl11,hr0,hr1⟩
 have v0:=h0 (hall 0 (by decide))
 have v1:=h1 (hall 1 (by decide))
 have v2:=h2 (hall 2 (by decide))
 have v3:=h3 (hall 3 (by decide))
 have v4:=h4 (hall 4 (by decide))
 have v5:=h5 (hall 5 (by decide))
 have v6:=h6 (hall 6 (by decide))
 have v7:=h7 (hall 7 (by decide))
 have v8:=h8 (hall 8 (by decide))
 have v9:=h9 (hall 9 (by decide))
 have v10:=h10 (hall 10 (by decide))
 have v11:=h11 (hall 11 (by decide))
 have v12:=h12 (hall 12 (by decide))
 obtain ⟨u13,v13⟩:∃ v,V 13 = v:=⟨_,rfl⟩
 have hrow:=hr1 (hall 13 (by decide))
 have hon:=hb
 clear hr0 hr1 hb
 simp only [zC,zD,zE,zF,z0i,Nat.zero_add,Nat.reduceAdd,v0,v1,v2,v3,v4,v5,v6,v7,v8,v9,v10,v11,v12,Act.put,zS,zA,zB]
 clear h0 h1 h2 h3 h4 h5 h6 h7 h8 h9 h10 h11 h12 v0 v1 v2 v3 v4 v5 v6 v7 v8 v9 v10 v11 v12 v13 hall hl7 hl11
 have HRW:=Lib.hid hrow
 have HON:=Lib.hid hon
 clear hrow hon
 go_wp2_with (refine z61 rfl 25 _ _ rfl rfl 0 g n c j _ 25 _ x (by rw [List.length_set];exact HN.out) (Nat.mul_comm _ _) rfl rfl HRW.out HQS.out HJ.out HXI.out.1 HXI.out.2 Tryz.sizeI ?_)
 intro w2 h2 hb2
 have HF:=Lib.hid (show OwnI 0 25 (.slice (some ⟨g,0,none⟩) n c) SW w2 from HSW.out ▸ h2.out)
 have HO2:=Lib.hid (show Only (fun b=>b = g) w w2 from HON.out.but hb2.out (.inl rfl))
 clear h2 hb2
 go_wp2_with fail
 refine bodyPost_end (results_none rfl _ _ _) rfl ?_
 exact ⟨rfl,HF.out,HO2.out⟩
end Go.Proofs.YtnbldbbbibpobaaGreatDoor
