/-
  Joined: The developers' present: the operations that are there and wanted, each with its name.; Sorting a row of operations with their names: the order, what lies where, before and after.; The developers' compare of operations with their names.; The developers' arranged: what is there and wanted, in the row's order.; The developers' bare.; The developers' every, Row, Order; a nil set.; The developers' Order; what Row and Order answer of a nil set.
-/
import Derived.Shelf.SlSortCmp.NoneTotal
import Derived.Shelf.SlSortCmp.WholeK
import Derived.Test.YtjomgkiphecljaaGreatDoorJ10
import Derived.Test.YtjomgkiphecljaaGreatDoorJ11
import Derived.Test.YtjomgkiphecljaaGreatDoorJ12
import Derived.Test.YtjomgkiphecljaaGreatDoorJ14
import Derived.Test.YtjomgkiphecljaaGreatDoorJ18
set_option maxRecDepth 100000
set_option maxHeartbeats 4000000
namespace Go.Proofs.YtjomgkiphecljaaGreatDoor
open Go.RowKit Go.BigFrame
def zg9 (L:List OpN) (n:List Nat):OpN:=(L.find? fun o=>decide (z02 o = n)).getD z04
theorem zh0 {L:List OpN} (hd:(L.map z02).Nodup) {o:OpN} (ho:o ∈ L):zg9 L (z02 o) = o:=by
 unfold zg9
 cases he:L.find? (fun x=>decide (z02 x = z02 o)) with
 | none =>
   have:=List.find?_eq_none.1 he o ho
   simp at this
 | some y =>
   have h1:=List.mem_of_find?_eq_some he
   have h2:=List.find?_some he
   exact z5u hd h1 ho (by simpa using h2)
def z4r (L:List OpN) (K:OpN → Bool) (ns:List (List Nat)):List OpN:=(ns.map (zg9 L)).filter K
theorem zix {L:List OpN} {K:OpN → Bool} {ns:List (List Nat)} {k:Nat} (hk:k < ns.length):z4r L K (ns.take (k + 1)) = z4r L K (ns.take k) ++ if K (zg9 L (ns.getD k [])) = true then [zg9 L (ns.getD k [])] else []:=by
 rw [z4r,List.take_succ_eq_append_getElem hk,List.map_append,List.filter_append,List.getD_eq_getElem?_getD,List.getElem?_eq_getElem hk]
 congr 1
 show List.filter K [zg9 L ns[k]] = if K (zg9 L ns[k]) = true then [zg9 L ns[k]] else []
 by_cases h:K (zg9 L ns[k]) = true
 ·rw [if_pos h,List.filter_cons_of_pos h];rfl
 ·rw [if_neg h,List.filter_cons_of_neg h];rfl
theorem zc3 {L:List OpN} {K:OpN → Bool} (hd:(L.map z02).Nodup):(z4r L K (z0g (L.map z02))).Perm (L.filter K):=by
 refine (((z94 _).map (zg9 L)).trans ?_).filter K
 rw [List.map_map]
 have:L.map (zg9 L ∘ z02) = L:=by
  conv=>rhs;rw [← List.map_id L]
  exact List.map_congr_left fun o ho=>zh0 hd ho
 rw [this]
theorem zg3 {L:List OpN} {K:OpN → Bool} {ns:List (List Nat)}:(z4r L K ns).length ≤ ns.length:=by
 have:=List.length_filter_le K (ns.map (zg9 L))
 rwa [List.length_map] at this
theorem z18 {P : Program} {w : World} {o : Oper} {a : Act} {Q : Exit → Act → World → Prop} {ops : Array Oper} {rest : List Oper} (hw : Region.wanted o (yielded ops a.tmps) = true) {f : FuncId} {fn : Func} (hf : P.funcs[f]? = some fn) (hname : (fn.name == "runtime.NumGoroutine") = false) (hb : fn.body.isNone = false)
 (x:Operand) (args:Array Operand) (ts:Array TypeId) (ho:o.op = .call { callee:=.value x,args:=args,argTypes:=ts }) (first caps:Array Value) (hx:a.eval x = .func (.func f) first caps) (vs:List Value) (hv:args.toList.map a.eval = vs) {C:Ending → World → Prop}
 (hc:Calls P f (first ++ vs.toArray ++ caps) w C) (h:∀ e w',C e w' → ∃ v,e = .returned v ∧ wpList P ops Q rest (a.put o.dst v) w'):wpList P ops Q (o :: rest) a w :=
 BigFrame.wpList_want hw fun _ hK=>(zjb hf hname hb ho first caps hx vs hv hc fun e w' he=>by
  obtain ⟨v,hv,hk⟩:=h e w' he
  exact ⟨v,hv,hK _ _ hk⟩).out
def zm8:Nat → Option (Nat × Nat):=fun i=>(#[(0,38),(38,32)]:Array (Nat × Nat))[i]?
theorem pl_fill (parts:List (Nat × Value)):Tryz.prog.built 86 parts = Instr.fill zm8 (opL z04 none 0 ++ z05 .u8 zeroI).toArray parts:=by kernel_rfl
theorem built_pl (x:OpN) (pa:Option Addr) (pc:Nat) (hr:x.d.ref.length = 32):Tryz.prog.built 86 [(0,.agg (opV x pa pc)),(1,.agg (z05 .u8 (z02 x)).toArray)] = some (plV x pa pc):=by
 rw [pl_fill]
 refine (z1z zm8 0 0 38 (.agg (opV x pa pc)) _ [] (opL z04 none 0) (z05 .u8 zeroI) (opL x pa pc) rfl rfl (z14 hr) rfl rfl).trans ?_
 have h2:=z1z zm8 1 38 32 (.agg (z05 .u8 (z02 x)).toArray) [] (opL x pa pc) (z05 .u8 zeroI) [] (z05 .u8 (z02 x)) rfl rfl (by rw [z0s,z0z]) rfl (z14 hr)
 rw [List.append_nil] at h2
 refine h2.trans ?_
 rw [z6v,List.append_nil]
 rfl
theorem Tryz.infoPl:(Tryz.prog.info? 86).map (fun i=>(i.zero,i.size,i.bytes)) = some (some (.agg (opL z04 none 0 ++ z05 .u8 zeroI).toArray),70,144):=by kernel_rfl
theorem own_base {B:Nat} {e:TypeId} {pa:Option Addr} {n c:Nat} {L:List (List Nat)} {w:World} (h:OwnI B e (.slice pa n c) L w) (h0:L ≠ []) {a:Addr} (ha:pa = some a):B ≤ a.block:=by
 obtain ⟨g,cap,h1,h2,_⟩:=h.formB (List.length_pos_iff.2 h0)
 injection h1 with h1
 rw [ha] at h1
 injection h1 with h1
 rw [h1]
 exact h2
theorem opOf_in {L:List OpN} (hd:(L.map z02).Nodup) {n:List Nat} (hn:n ∈ L.map z02):zg9 L n ∈ L ∧ z02 (zg9 L n) = n:=by
 obtain ⟨o,ho,rfl⟩:=List.mem_map.1 hn
 rw [zh0 hd ho]
 exact ⟨ho,rfl⟩
theorem zjg (X:Nat → Prop) (B:Bs) (T:Ents) (s:DagN) (hs:List (List Nat)) (M:Bh) (n:List Nat) (w:World) (h:SetAt X B T s hs M w) (hi:n ∈ s.names) (hd:s.names.Nodup) (ht:Tame s) (o:OpN) (ho:zg9 s.ops n = o) :
 Calls Tryz.prog 71 #[.pointer (some ⟨B.gs,0,none⟩),.agg (z05 .u8 n).toArray] w fun e w'=>∃ pa pc,e = .returned (.tuple #[.agg (opV o pa pc),.int .i64 0]) ∧ OwnI w.heap.size 45 (.slice pa o.preds.length pc) o.preds w' ∧ Below w.heap.size w w':=by
 have hok:IdOk n:=by
  obtain ⟨y,_,rfl⟩:=List.mem_map.1 hi
  exact z2y y
 refine (dev_get X B T s hs M n w h hok ht.ops).mono ?_
 rintro e w' ⟨⟨y,pa,pc,h1,h2⟩,hb⟩
 obtain ⟨h3,h4,rfl⟩:=h2.resolve_right fun q=>q.1 hi
 have hy:y = o:=by rw [← ho,← h4];exact (zh0 hd h3).symm
 subst hy
 exact ⟨pa,pc,rfl,h1,hb⟩
theorem zar (X:Nat → Prop) (B:Bs) (T:Ents) (s:DagN) (hs:List (List Nat)) (M:Bh) (K:OpN → Bool) (f:FuncId) (fn:Func) (caps:Array Value) (w:World) (h:SetAt X B T s hs M w) (hn:s.names.Nodup) (ht:Tame s)
 (hfn : Tryz.prog.funcs[f]? = some fn) (hname : (fn.name == "runtime.NumGoroutine") = false) (hbody : fn.body.isNone = false)
 (hK:∀ x ∈ s.ops,∀ pa pc w',Below w.heap.size w w' → Calls Tryz.prog f (#[] ++ [Value.agg (opV x pa pc)].toArray ++ caps) w' fun e w''=>e = .returned (.bool (K x)) ∧ Below w'.heap.size w' w'') :
 Calls Tryz.prog 47 #[.pointer (some ⟨B.gs,0,none⟩),.func (.func f) #[] caps] w fun e w'=>∃ v,e = .returned v ∧ OwnP w.heap.size 86 v (z4r s.ops K (z0g s.names)) w' ∧ Below w.heap.size w w':=by
 have hops:s.ops.length ≤ 1000:=by have:=ht.many;omega
 have HN:=Lib.hid (zka h (by omega))
 have HG:=Lib.hid (fun w' n (k:Below w.heap.size w w') (hi:n ∈ s.names)=>zjg X B T s hs M n w' (h.below k) hi hn ht _ rfl)
 have HK:=Lib.hid hK
 have HF:=Lib.hid ht.ops
 have HND:=Lib.hid hn
 have HFN:=Shut.mk hfn
 have HNM:=Shut.mk hname
 have HBD:=Shut.mk hbody
 have HRI:=Lib.hid (show Ids (z0g s.names) from z4n fun x hx=>by
  obtain ⟨o,_,rfl⟩:=List.mem_map.1 hx
  exact z2y o)
 have HRL:=Lib.hid (show (z0g s.names).length ≤ 1000 by rw [z3a,DagN.names,List.length_map];exact hops)
 clear hK hn ht hfn hname hbody h hops
 go_enter Tryz.func47,Tryz.ntmps47
 obtain ⟨m,hm⟩:∃ m,(z0g s.names).length = m:=⟨_,rfl⟩
 have HM:=Shut.mk hm
 have hm2:m ≤ 1000:=hm ▸ HRL.out
 clear hm
 go_wp2_with (refine HN.out.mono ?_;rintro e w1 ⟨v1,rfl,ho1,hb1⟩;obtain ⟨ap,cp,rfl⟩:=ho1.form;have HB1:=Lib.hid hb1;have HI1:=Lib.hid (ho1.at HRI.out);rw [HM.out];clear ho1 hb1 HN)
 go_loopw [5,13] (fun tv i wr=>∃ (v:Value) (k:Nat),tv = v ∧ i = .int .i64 k ∧ k ≤ m ∧ OwnP w1.heap.size 86 v (z4r s.ops K ((z0g s.names).take k)) wr ∧ Below w1.heap.size w1 wr) (fun _ i _=>m - (intOf i).toNat)
 case atStart=>exact ⟨_,0,rfl,rfl,Nat.zero_le _,OwnP.nil _ _ _,Below.refl _ _⟩
 case round =>
  obtain ⟨wi,rfl⟩:∃ z,z = wr:=⟨_,rfl⟩
  obtain ⟨v,k,rfl,rfl,hk,ho,hb⟩:=hrel
  have HO:=Lib.hid ho
  have HB:=Lib.hid (HB1.out.trans (hb.mono HB1.out.size))
  have HBM:=Lib.hid hb
  have HIW:=Lib.hid (HI1.out.below hb)
  clear hb ho
  by_cases hlt:k < m
  ·obtain ⟨b,ob,rfl,hbl⟩:=HIW.out.some (by rw [HM.out];omega)
   have g1:=HIW.out.get (i:=k) (by rw [HM.out];omega)
   have i1:=Ids.getD HRI.out (i:=k) (by rw [HM.out];omega)
   have hnx:=zix (L:=s.ops) (K:=K) (ns:=z0g s.names) (k:=k) (by rw [HM.out];exact hlt)
   have hin:(z0g s.names).getD k [] ∈ s.names:=risingN_mem.1 (by
    rw [List.getD_eq_getElem?_getD,List.getElem?_eq_getElem (by rw [HM.out];exact hlt)]
    exact List.getElem_mem _)
   obtain ⟨x,hx⟩:∃ x,(z0g s.names).getD k [] = x:=⟨_,rfl⟩
   rw [hx] at g1 i1 hnx hin
   obtain ⟨hom,hon⟩:=opOf_in HND.out hin
   have HIN:=Lib.hid hin
   have HNX:=Lib.hid hnx
   have HXI:=Lib.hid i1
   have HG1:=Lib.hid g1
   have HS1:=Lib.hid (show (Tryz.prog.info? 45).map (·.size) = some x.length by rw [i1.1];exact Tryz.sizeI)
   have HL2:=Lib.hid (show (List.replicate 32 0).length = x.length by rw [i1.1];rfl)
   clear hx g1 i1 hnx hin hbl
   go_wp2_with (first
    | (refine z0a rfl 45 _ rfl b (ob + k * 32) x _ rfl HG1.out Tryz.underlying45 rfl HS1.out ?_)
    | (refine z06 rfl 45 _ _ rfl rfl wi.heap.size .u8 (List.replicate 32 0) x 45 rfl rfl (heap_alloc_new wi _) HS1.out HL2.out ?_))
   intro w5 hc' hb'
   have HB5a:=Lib.hid (show Below wi.heap.size wi w5 from But.toBelow ((Below.refl _ _).alloc (Nat.le_refl _) _) hb'.out (Nat.le_refl _) (by rw [World.size_alloc];exact Nat.le_succ _))
   have HC5:=Lib.hid (show Blk wi.heap.size 45 .u8 x w5 from hc'.out)
   have HB5:=Lib.hid (HB.out.trans (HB5a.out.mono HB.out.size))
   have HGT:=Lib.hid (HG.out w5 x HB5.out HIN.out)
   clear hc' hb'
   obtain ⟨o,hoe⟩:∃ o,zg9 s.ops x = o:=⟨_,rfl⟩
   rw [hoe] at hom hon HGT HNX
   have HFO:=Lib.hid (HF.out o hom)
   have HOM:=Lib.hid hom
   have HON:=Lib.hid hon
   have HSV:=Lib.hid (fun (pa:Option Addr) (pc:Nat)=>show (Tryz.prog.info? 49).map (·.size) = some (opV o pa pc).size by rw [z08 HFO.out.d.ref.1];exact Tryz.sizeO)
   have HSZ:=Lib.hid (fun (pa:Option Addr) (pc:Nat)=>show (opL z04 none 0).toArray.size = (opV o pa pc).size by rw [z08 HFO.out.d.ref.1];rfl)
   have HZO:=Lib.hid (show (Tryz.prog.info? 49).bind (·.zero) = some (.agg (opL z04 none 0).toArray) by kernel_rfl)
   clear hoe hom hon
   go_wp2_with (first
    | (refine z07 rfl 45 (.tmp 7) rfl wi.heap.size .u8 x 45 _ rfl HC5.out Tryz.underlying45 rfl HS1.out ?_)
    | (refine HGT.out.mono ?_;rintro e w6 ⟨pa,pc,rfl,ho6,hb6⟩;have HO6:=Lib.hid ho6;have HB6:=Lib.hid hb6;clear ho6 hb6)
    | (refine z0b rfl 49 rfl (opL z04 none 0) HZO.out ?_)
    | (refine z00 rfl 49 _ _ rfl rfl w6.heap.size (opL z04 none 0).toArray (opV o pa pc) 49 rfl rfl (heap_alloc_new w6 _) (HSV.out pa pc) (HSZ.out pa pc) (z1c o pa pc) ?_))
   intro w7 hc7 hb7
   have hb67:Below w6.heap.size w6 w7:=But.toBelow ((Below.refl _ w6).alloc (Nat.le_refl _) _) hb7.out (Nat.le_refl _) (by rw [World.size_alloc];exact Nat.le_succ _)
   have HC7:=Lib.hid (show Cells w6.heap.size 49 (opV o pa pc) w7 from hc7.out)
   have HI7:=Lib.hid (HO6.out.below hb67)
   have HB7:=Lib.hid (show Below wi.heap.size wi w7 from HB5a.out.trans ((HB6.out.trans (hb67.mono HB6.out.size)).mono HB5a.out.size))
   have HC57:=Lib.hid (show Blk wi.heap.size 45 .u8 x w7 from HC5.out.below (HB6.out.trans (hb67.mono HB6.out.size)))
   have HB07:=Lib.hid (HB.out.trans (HB7.out.mono HB.out.size))
   have HKK:=Lib.hid (HK.out o HOM.out pa pc w7 HB07.out)
   clear hc7 hb7 hb67
   obtain ⟨kb,hkb⟩:∃ z,K o = z:=⟨_,rfl⟩
   rw [hkb] at HNX HKK
   clear hkb
   cases kb with
   | false =>
     have HNXF:=Lib.hid (show z4r s.ops K ((z0g s.names).take (k + 1)) = z4r s.ops K ((z0g s.names).take k) by rw [HNX.out];simp)
     go_wp2_with (first
      | (refine z0m (by rfl) 49 (.tmp 8) rfl w6.heap.size (opV o pa pc) 49 _ rfl HC7.out Tryz.underlying49 rfl (HSV.out pa pc) ?_)
      | (refine z18 (by rfl) HFN.out HNM.out HBD.out (.tmp 26) _ _ rfl #[] caps rfl [.agg (opV o pa pc)] rfl HKK.out ?_;rintro e w8 ⟨rfl,hb8⟩;refine ⟨_,rfl,?_⟩;have HB8:=Lib.hid (HB7.out.trans (hb8.mono HB7.out.size));clear hb8))
     refine ⟨⟨_,k + 1,rfl,by go_num,by omega,by rw [HNXF.out];exact HO.out.below HB8.out,HBM.out.trans (HB8.out.mono HBM.out.size)⟩,by simp [intOf];omega⟩
   | true =>
     have HNXT:=Lib.hid (show z4r s.ops K ((z0g s.names).take (k + 1)) = z4r s.ops K ((z0g s.names).take k) ++ [o] by rw [HNX.out];simp)
     have HBP:=Lib.hid (show Tryz.prog.built 86 [(0,.agg (opV o pa pc)),(1,.agg (z05 .u8 x).toArray)] = some (plV o pa pc) from HON.out ▸ built_pl o pa pc HFO.out.d.ref.1)
     have hr8:=z3f (P:=Tryz.prog) 83 86 (plL o pa pc) _ _ _ Tryz.underlying83 Tryz.infoPl (z3m HFO.out.d.ref.1) (by decide) (by decide)
     have HR8:=Lib.hid hr8
     obtain ⟨oa,oc,rfl⟩:=HO.out.form
     have hol:=zg3 (L:=s.ops) (K:=K) (ns:=(z0g s.names).take k)
     rw [List.length_take,HM.out] at hol
     obtain ⟨ol,hole⟩:∃ z,(z4r s.ops K ((z0g s.names).take k)).length = z:=⟨_,rfl⟩
     rw [hole] at hol HO ⊢
     have HOL:=Lib.hid (show (z4r s.ops K ((z0g s.names).take k)).length ≤ 1000000 from by omega)
     clear hr8 hole hol
     go_wp2_with (first
      | (refine z0m (by rfl) 49 (.tmp 8) rfl w6.heap.size (opV o pa pc) 49 _ rfl HC7.out Tryz.underlying49 rfl (HSV.out pa pc) ?_)
      | (refine z18 (by rfl) HFN.out HNM.out HBD.out (.tmp 26) _ _ rfl #[] caps rfl [.agg (opV o pa pc)] rfl HKK.out ?_;rintro e w8 ⟨rfl,hb8⟩;refine ⟨_,rfl,?_⟩;have HB8:=Lib.hid (HB7.out.trans (hb8.mono HB7.out.size));have HC8:=Lib.hid (HC7.out.below hb8);have HI8:=Lib.hid (HI7.out.below hb8);have HC58:=Lib.hid (HC57.out.below hb8);clear hb8)
      | (refine z01 rfl 49 (.tmp 8) rfl w6.heap.size (opV o pa pc) 49 _ rfl HC8.out Tryz.underlying49 rfl (HSV.out pa pc) ?_)
      | (refine z07 rfl 45 (.tmp 7) rfl wi.heap.size .u8 x 45 _ rfl HC58.out Tryz.underlying45 rfl HS1.out ?_)
      | (refine z0n rfl 86 _ rfl [(0,.agg (opV o pa pc)),(1,.agg (z05 .u8 x).toArray)] _ (by rw [List.map_toArray];rfl) HBP.out ?_)
      | (refine z34 rfl 83 86 _ rfl (plL o pa pc) rfl HR8.out ?_))
     intro w9 hc9 hb9
     have HC9:=Lib.hid hc9.out.news
     have HB9:=Lib.hid (HB8.out.trans (hb9.out.mono HB8.out.size))
     have HI9:=Lib.hid ((HI8.out.below hb9.out).at HFO.out.preds)
     have HN9:=Lib.hid (show ∀ a,pa = some a → o.preds ≠ [] → (Value.slice oa ol oc).ownBlock ≠ some a.block from fun a ha h0 e=>by
      have h1:=own_base HO6.out h0 ha
      have h2:=(HO.out.lt e).2
      have h3:=HB5a.out.size
      omega)
     have HO9:=Lib.hid (HO.out.below HB9.out)
     have HZ9:=Lib.hid (show w1.heap.size ≤ w9.heap.size from Nat.le_trans HBM.out.size HB9.out.size)
     obtain ⟨g9,hg9⟩:∃ z,w8.heap.size = z:=⟨_,rfl⟩
     rw [hg9] at HC9 ⊢
     clear hc9 hb9 hg9
     go_wp2_with (refine z9j rfl _ _ 83 86 rfl w1.heap.size 144 _ rfl (by decide) Tryz.underlying83 Tryz.infoPl (.slice oa ol oc) _ o pa pc HFO.out.d.ref.1 HI9.out HN9.out ⟨g9,0,none⟩ 1 rfl HO9.out rfl HC9.out HOL.out HZ9.out ?_)
     intro v10 w10 ho10 hb10 _
     have HO10:=Lib.hid ho10.out
     have HB10:=Lib.hid hb10.out
     clear ho10 hb10
     go_wp2_with fail
     exact ⟨⟨v10,k + 1,rfl,by go_num,by omega,by rw [HNXT.out];exact HO10.out,(HBM.out.trans (HB9.out.mono HBM.out.size)).trans HB10.out⟩,by simp [intOf];omega⟩
  ·obtain rfl:k = m:=by omega
   have HE:=Lib.hid (show (z0g s.names).take k = z0g s.names from List.take_of_length_le (by rw [HM.out];exact Nat.le_refl _))
   go_wp2_with fail
   go_ret
   exact ⟨_,rfl,by rw [HE.out] at HO;exact HO.out.mono HB1.out.size,HB.out⟩
open Go.Sort Go.Shelf
theorem zdg {α:Type} {enc:α → List Value} {K:Nat} (hlen:∀ x,(enc x).length = K) (L:List α):Wide K (L.map enc):=fun x hx=>by
 obtain ⟨y,_,rfl⟩:=List.mem_map.1 hx
 exact hlen y
section
variable {α:Type} [Inhabited α] {enc:α → List Value} {K:Nat}
theorem zcj (hlen:∀ x,(enc x).length = K) (hK:0 < K) (d:Array α):(flatK enc K d).toList = (d.toList.map enc).flatten:=by
 have hW:=zdg hlen d.toList
 have hl:=z40 hW
 rw [List.length_map,Array.length_toList (xs:=d)] at hl
 have hs:(flatK enc K d).size = d.size * K:=size_flatK _ _ _
 refine List.ext_getElem? fun t=>?_
 by_cases ht:t < d.size * K
 ·obtain ⟨q,m,rfl,hm,hq⟩:=z9x (K:=K) (q:=t) (n:=d.size) hK
  have hq:=hq ht
  have h1:=get_flatK enc K d _ ht
  rw [getElem!_pos _ _ (by rw [hs];exact ht)] at h1
  rw [Array.getElem?_toList,Array.getElem?_eq_getElem (by rw [hs];exact ht),h1]
  rw [z3x hW (by rw [List.length_map,Array.length_toList (xs:=d)];exact hq) hm,List.getD_eq_getElem?_getD,List.getElem?_map,Array.getElem?_toList (xs:=d),Array.getElem?_eq_getElem hq]
  have e1:(K * q + m) / K = q:=by rw [Nat.mul_add_div hK,Nat.div_eq_of_lt hm,Nat.add_zero]
  have e2:(K * q + m) % K = m:=by rw [Nat.mul_add_mod,Nat.mod_eq_of_lt hm]
  rw [e1,e2,getElem!_pos d _ hq]
  have h4:m < (enc d[q]).length:=by rw [hlen];exact hm
  show some ((enc d[q])[m]!) = (enc d[q])[m]?
  rw [List.getElem?_eq_getElem h4,getElem!_pos (enc d[q]) m h4]
 ·rw [List.getElem?_eq_none (by rw [Array.length_toList,hs];omega),List.getElem?_eq_none (by omega)]
theorem zfw {w:World} {g n:Nat} {os:Array Obj} {cur:Array Value} {e:TypeId} {fr:Nat × Nat} (d:Array α) (hb:w.heap[g]? = some (.cells cur e fr)) :
 (sortWorldK enc K w g 0 n d os).heap[g]? = some (.cells (putCells id 0 (flatK enc K d) cur) e fr):=by
 have hg:g < w.heap.size:=(Array.getElem?_eq_some_iff.1 hb).1
 unfold sortWorldK putRowK
 rw [heap_grow_old _ _ (by simp [putRow,mapBlock,Sort.ahead];exact hg)]
 simp [putRow,mapBlock,Sort.ahead,Array.getElem?_modify,hb,onCells]
theorem zaf {w:World} {g n:Nat} {os:Array Obj} (d:Array α):w.grownBy (sortWorldK enc K w g 0 n d os) (some g):=by
 unfold sortWorldK putRowK
 refine ⟨rfl,rfl,rfl,by simp [grow,putRow,mapBlock,Sort.ahead],fun k hk hne=>?_⟩
 rw [heap_grow_old _ _ (by simp [putRow,mapBlock,Sort.ahead];exact hk)]
 have:g ≠ k:=fun e=>hne (by rw [e])
 simp [putRow,mapBlock,Sort.ahead,Array.getElem?_modify,this]
theorem zbk (cur F:Array Value) (h:F.size ≤ cur.size):(putCells id 0 F cur).toList.take F.size = F.toList:=by
 apply List.ext_getElem?
 intro j
 by_cases hj:j < F.size
 ·rw [List.getElem?_take_of_lt hj,Array.getElem?_toList]
  simp [putCells,hj,show j < cur.size by omega]
 ·rw [List.getElem?_take_eq_none (by omega),List.getElem?_eq_none (by simp;omega)]
theorem za1 (hlen:∀ x,(enc x).length = K) (hK:0 < K) {B g c q:Nat} {e:TypeId} {ss ts:List α} {w:World} {os:Array Obj} (h:w.ownsRow B e K (.slice (some ⟨g,0,none⟩) ss.length c) ss.length (ss.map enc).flatten) (hl:ts.length = ss.length) :
 (sortWorldK enc K w g 0 q ts.toArray os).ownsRow B e K (.slice (some ⟨g,0,none⟩) ss.length c) ss.length (ts.map enc).flatten:=by
 rcases h.2 with ⟨h0,_⟩ | ⟨g',cap,cur,h0,hB,hh,h1,h2,h3,h4⟩
 ·cases h0
 ·injection h0 with h5 h6 h7
  injection h5 with h5
  injection h5 with h5 _ _
  subst h5 h7
  have hs:(flatK enc K ts.toArray).size = ts.length * K:=by rw [size_flatK,List.size_toArray]
  refine ⟨?_,.inr ⟨g,c,_,rfl,hB,zfw _ hh,h1,h2,by simp [putCells,h3],?_⟩⟩
  ·rw [z40 (zdg hlen ts),List.length_map,hl]
  ·have h5:=zbk cur (flatK enc K ts.toArray) (by rw [hs,hl,h3];exact Nat.mul_le_mul_right K h1)
   rw [hs,zcj hlen hK,hl] at h5
   exact h5
theorem zbi (hlen:∀ x,(enc x).length = K) (hK:0 < K) {B g c:Nat} {e:TypeId} {ss:List α} {w:World} (h:w.ownsRow B e K (.slice (some ⟨g,0,none⟩) ss.length c) ss.length (ss.map enc).flatten):HoldsK enc K w g 0 ss.toArray:=by
 rcases h.2 with ⟨h0,_⟩ | ⟨g',cap,cur,h0,hB,hh,h1,h2,h3,h4⟩
 ·cases h0
 ·injection h0 with h5 h6 h7
  injection h5 with h5
  injection h5 with h5 _ _
  subst h5 h7
  intro j hj
  rw [size_flatK,List.size_toArray] at hj
  refine ⟨?_,by simp [World.frozen?,hh]⟩
  have h5:(cur.toList.take (ss.length * K))[j]? = ((ss.map enc).flatten)[j]?:=by rw [h4]
  rw [List.getElem?_take_of_lt hj] at h5
  have h6:=zcj hlen hK ss.toArray
  rw [List.toList_toArray] at h6
  rw [← h6,Array.getElem?_toList,Array.getElem?_toList,Array.getElem?_eq_getElem (i:=j) (xs:=flatK enc K ss.toArray) (by rw [size_flatK,List.size_toArray];exact hj)] at h5
  simp only [World.cell?,hh,Nat.zero_add,Option.isSome_none,Bool.false_eq_true,if_false]
  rw [h5,getElem!_pos (flatK enc K ss.toArray) j (by rw [size_flatK,List.size_toArray];exact hj)]
  rfl
end
structure PlE where
 x:OpN
 pa:Option Addr
 pc:Nat
 ok:x.d.ref.length = 32
instance:Inhabited PlE:=⟨⟨z04,none,0,rfl⟩⟩
def z9c (p:PlE):List Value:=plL p.x p.pa p.pc
theorem z9v (p:PlE):(z9c p).length = 70:=z3m p.ok
def cfO (a b:OpN):Int:=if a.depth < b.depth then -1 else if b.depth < a.depth then 1 else z1o (z02 a) (z02 b)
def cfP (p q:PlE):Int:=cfO p.x q.x
theorem nbef {a b:OpN}:z7l a b = false ↔ b.depth < a.depth ∨ a.depth = b.depth ∧ (z02 a = z02 b ∨ z1o (z02 b) (z02 a) = -1):=by
 rw [← Bool.not_eq_true,befN_iff]
 constructor
 ·intro h
  rcases Int.lt_trichotomy a.depth b.depth with h1 | h1 | h1
  ·exact absurd (.inl h1) h
  ·refine .inr ⟨h1,?_⟩
   by_cases he:z02 a = z02 b
   ·exact .inl he
   ·exact .inr ((z33 (by rw [z0z,z0z]) he).resolve_left fun e=>h (.inr ⟨h1,e⟩))
  ·exact .inl h1
 ·rintro (h | ⟨h,k⟩) (h2 | ⟨h2,k2⟩)
  ·omega
  ·omega
  ·omega
  ·rcases k with k | k
   ·rw [k,z7q] at k2;cases k2
   ·exact z4h k2 k
theorem cfO_lt (a b:OpN):cfO a b < 0 ↔ z7l a b = true:=by
 rw [befN_iff,cfO]
 by_cases h1:a.depth < b.depth
 ·rw [if_pos h1]
  exact ⟨fun _=>.inl h1,fun _=>by decide⟩
 ·rw [if_neg h1]
  by_cases h2:b.depth < a.depth
  ·rw [if_pos h2]
   exact ⟨fun h=>absurd h (by decide),fun h=>by rcases h with h | ⟨h,_⟩ <;> omega⟩
  ·rw [if_neg h2]
   have h3:a.depth = b.depth:=by omega
   rcases z3g (z02 a) (z02 b) with h | h | h <;> rw [h]
   ·exact ⟨fun _=>.inr ⟨h3,rfl⟩,fun _=>by decide⟩
   ·exact ⟨fun e=>absurd e (by decide),fun e=>by
     rcases e with e | ⟨_,e⟩
     ·omega
     ·cases e⟩
   ·exact ⟨fun e=>absurd e (by decide),fun e=>by
     rcases e with e | ⟨_,e⟩
     ·omega
     ·cases e⟩
theorem ltP (p q:PlE):ltOf cfP p q = true ↔ z7l p.x q.x = true:=by
 unfold ltOf cfP
 rw [decide_eq_true_iff]
 exact cfO_lt _ _
theorem leP (p q:PlE):ltOf cfP p q = false ↔ z7l p.x q.x = false:=by
 rw [← Bool.not_eq_true,ltP,Bool.not_eq_true]
theorem swoP:SWO (ltOf cfP) where
 irrefl x:=(leP x x).2 (zid _)
 trans x y z h1 h2:=(ltP x z).2 (z8k ((ltP x y).1 h1) ((ltP y z).1 h2))
 ntrans x y z h1 h2:=by
  refine (leP x z).2 (nbef.2 ?_)
  rcases nbef.1 ((leP x y).1 h1) with e1 | ⟨e1,k1⟩ <;> rcases nbef.1 ((leP y z).1 h2) with e2 | ⟨e2,k2⟩
  ·exact .inl (by omega)
  ·exact .inl (by omega)
  ·exact .inl (by omega)
  ·refine .inr ⟨by omega,?_⟩
   rcases k1 with k1 | k1
   ·rcases k2 with k2 | k2
    ·exact .inl (k1.trans k2)
    ·exact .inr (by rw [k1];exact k2)
   ·rcases k2 with k2 | k2
    ·exact .inr (by rw [← k2];exact k1)
    ·exact .inr (z2e k2 k1)
theorem zi9 {R:OpN → Option Addr → Prop}:∀ (L:List OpN) (C:List (List Value)),C.length = L.length → (∀ x ∈ L,x.d.ref.length = 32) → (∀ (i:Nat) (x:OpN),L[i]? = some x → ∃ pa pc,C[i]? = some (plL x pa pc) ∧ R x pa) → ∃ D:List PlE,D.map (·.x) = L ∧ D.map z9c = C ∧ ∀ p ∈ D,R p.x p.pa
 | [],[],_,_,_=>⟨[],rfl,rfl,fun p hp=>by cases hp⟩
 | [],_ :: _,h,_,_=>by cases h
 | _ :: _,[],h,_,_=>by cases h
 | x :: L, c :: C, h, hr, hE => by
   obtain ⟨D,h1,h2,h3⟩:=zi9 (R:=R) L C (by simpa using h) (fun y hy=>hr y (List.mem_cons_of_mem _ hy)) (fun i y hy=>by
    have:=hE (i + 1) y (by rw [List.getElem?_cons_succ];exact hy)
    simpa only [List.getElem?_cons_succ] using this)
   obtain ⟨pa,pc,q1,q2⟩:=hE 0 x rfl
   rw [List.getElem?_cons_zero,Option.some.injEq] at q1
   refine ⟨⟨x,pa,pc,hr x (List.mem_cons_self ..)⟩ :: D,by rw [List.map_cons,h1],by rw [List.map_cons,h2,q1];rfl,fun p hp=>?_⟩
   rcases List.mem_cons.1 hp with rfl | hp
   ·exact q2
   ·exact h3 p hp
theorem OwnP.split {B:Nat} {e:TypeId} {v:Value} {L:List OpN} {w:World} (h:OwnP B e v L w) (hr:∀ x ∈ L,x.d.ref.length = 32) :
 ∃ D:List PlE,D.map (·.x) = L ∧ w.ownsRow B e 70 v D.length (D.map z9c).flatten ∧ ∀ p ∈ D,IAt p.pa p.x.preds w ∧ ∀ a,p.pa = some a → p.x.preds ≠ [] → v.ownBlock ≠ some a.block:=by
 obtain ⟨C,h1,h2,h3,h4⟩:=h
 obtain ⟨D,d1,d2,d3⟩:=zi9 (R:=fun x pa=>IAt pa x.preds w ∧ ∀ a,pa = some a → x.preds ≠ [] → v.ownBlock ≠ some a.block) L C h3 hr h4
 have hl:D.length = L.length:=by rw [← d1,List.length_map]
 exact ⟨D,d1,by rw [d2,hl];exact h1,d3⟩
theorem OwnP.join {B:Nat} {e:TypeId} {v:Value} {D:List PlE} {w:World} (h:w.ownsRow B e 70 v D.length (D.map z9c).flatten) (k:∀ p ∈ D,IAt p.pa p.x.preds w ∧ ∀ a,p.pa = some a → p.x.preds ≠ [] → v.ownBlock ≠ some a.block):OwnP B e v (D.map (·.x)) w:=by
 refine ⟨D.map z9c,by rw [List.length_map];exact h,zdg z9v D,by rw [List.length_map,List.length_map],fun i x hx=>?_⟩
 rw [List.getElem?_map] at hx
 obtain ⟨p,hp,rfl⟩:=Option.map_eq_some_iff.1 hx
 obtain ⟨k1,k2⟩:=k p (List.mem_of_getElem? hp)
 exact ⟨p.pa,p.pc,by rw [List.getElem?_map,hp];rfl,k1,k2⟩
theorem zh7 {d d':Array PlE} (hp:PermIn 0 d.size d d') (hs:SortedIn (ltOf cfP) 0 d.size d') (hd:((d.toList.map (·.x)).map z02).Nodup):d'.toList.Perm d.toList ∧ Rows (d'.toList.map (·.x)):=by
 obtain ⟨h1,_,h2⟩:=hp
 have hperm:d'.toList.Perm d.toList:=by
  rw [← h1] at h2
  have e1:d'.extract 0 d'.size = d':=by simp
  have e2:d.extract 0 d'.size = d:=by rw [h1];simp
  rwa [e1,e2] at h2
 refine ⟨hperm,?_⟩
 have hnd:((d'.toList.map (·.x)).map z02).Nodup:=((hperm.map (·.x)).map z02).nodup_iff.2 hd
 unfold Rows
 rw [List.pairwise_iff_getElem]
 intro i j hi hj hij
 rw [List.length_map,Array.length_toList] at hi hj
 have h3:=hs i j (Nat.zero_le _) hij (by omega)
 rw [getElem!_pos d' j hj,getElem!_pos d' i hi] at h3
 have hne:=List.pairwise_iff_getElem.1 hnd i j (by rw [List.length_map,List.length_map,Array.length_toList];exact hi) (by rw [List.length_map,List.length_map,Array.length_toList];exact hj) hij
 simp only [List.getElem_map,Array.getElem_toList] at hne ⊢
 have h4:=(leP _ _).1 h3
 exact (z8d (by rw [z0z,z0z]) hne).resolve_right (by rw [h4];decide)
def zk1 (x y:Int):Int:=if x < y then -1 else if y < x then 1 else 0
theorem cfO_or (a b:OpN):cfO a b = if zk1 a.depth b.depth = 0 then z1o (z02 a) (z02 b) else zk1 a.depth b.depth:=by
 unfold cfO zk1
 by_cases h1:a.depth < b.depth
 ·rw [if_pos h1,if_pos h1,if_neg (by decide)]
 ·rw [if_neg h1,if_neg h1]
  by_cases h2:b.depth < a.depth
  ·rw [if_pos h2,if_pos h2,if_neg (by decide)]
  ·rw [if_neg h2,if_neg h2,if_pos rfl]
theorem z7t {g:Nat} {t:TypeId} (p:PlE) {w:World} (h:Cells g t (z9c p).toArray w):w.rangeAt g 0 (opL p.x p.pa p.pc) ∧ w.rangeAt g 38 (z05 .u8 (z02 p.x)):=by
 have h1:w.rangeAt g 0 (plL p.x p.pa p.pc):=fun j v hj=>by
  rw [Nat.zero_add,h.at,List.getElem?_toArray]
  exact hj
 exact zi5 p.ok h1
theorem Onw.grow {w2 w':World} (h:Onw w2 w') {q:Nat} {os:Array Obj}:Onw w2 (Sort.grow (w'.drewN q) os):=by
 obtain ⟨⟨h1,h2,h3,h4,h5⟩,h6⟩:=h
 refine ⟨⟨h1,h2,h3,?_,fun i hi=>?_⟩,Nat.le_trans h6 (Nat.le_add_right _ _)⟩
 ·show w2.heap.size ≤ (w'.heap ++ os).size
  rw [Array.size_append]
  omega
 ·show (w'.heap ++ os)[i]? = _
  rw [Array.getElem?_append_left (by omega)]
  exact h5 i hi
theorem zm4 (x:Int) (w:World):Calls Tryz.prog 126 #[.int .i64 x] w fun e w'=>e = .returned (.bool false) ∧ w' = w:=by
 go_enter Tryz.func126,Tryz.ntmps126
 go_wp2_with fail
 go_ret
 exact ⟨by simp,rfl⟩
theorem dev_cmpI (x y:Int) (w:World):Calls Tryz.prog 92 #[.int .i64 x,.int .i64 y] w fun e w'=>e = .returned (.int .i64 (zk1 x y)) ∧ w' = w:=by
 have HN:=Lib.hid (fun z=>zm4 z w)
 by_cases h1:x < y
 ·have HR:=Shut.mk (show zk1 x y = -1 from if_pos h1)
  have g1:decide (x < y) = true:=decide_eq_true h1
  go_enter Tryz.func92,Tryz.ntmps92
  go_wp2_with (refine (HN.out _).mono ?_;rintro e w2 ⟨rfl,rfl⟩)
  go_ret
  exact ⟨by rw [HR.out];rfl,rfl⟩
 ·have g1:decide (x < y) = false:=decide_eq_false h1
  by_cases h2:y < x
  ·have HR:=Shut.mk (show zk1 x y = 1 by rw [zk1,if_neg h1,if_pos h2])
   have g2:decide (y < x) = true:=decide_eq_true h2
   go_enter Tryz.func92,Tryz.ntmps92
   go_wp2_with (refine (HN.out _).mono ?_;rintro e w2 ⟨rfl,rfl⟩)
   go_ret
   exact ⟨by rw [HR.out];rfl,rfl⟩
  ·have HR:=Shut.mk (show zk1 x y = 0 by rw [zk1,if_neg h1,if_neg h2])
   have g2:decide (y < x) = false:=decide_eq_false h2
   go_enter Tryz.func92,Tryz.ntmps92
   go_wp2_with (refine (HN.out _).mono ?_;rintro e w2 ⟨rfl,rfl⟩)
   go_ret
   exact ⟨by rw [HR.out];rfl,rfl⟩
theorem dev_or2 (x y:Int) (g:Nat) (w:World) (h0:w.cell? ⟨g,0,none⟩ = some (.int .i64 x)) (h1:w.cell? ⟨g,1,none⟩ = some (.int .i64 y)):Calls Tryz.prog 91 #[.slice (some ⟨g,0,none⟩) 2 2] w fun e w'=>e = .returned (.int .i64 (if x = 0 then y else x)) ∧ w' = w:=by
 obtain ⟨R,hR⟩:∃ R,(if x = 0 then y else x) = R:=⟨_,rfl⟩
 have HX:=Shut.mk hR.symm
 rw [hR]
 clear hR
 go_enter Tryz.func91,Tryz.ntmps91
 go_wp2_with fail
 go_loopw [8] (fun i wr=>wr = w ∧ (i = .int .i64 0 ∨ i = .int .i64 1 ∧ x = 0 ∨ i = .int .i64 2 ∧ x = 0 ∧ y = 0)) (fun i _=>2 - (intOf i).toNat)
 case atStart=>exact ⟨rfl,.inl rfl⟩
 case round =>
  obtain ⟨rfl,hi⟩:=hrel
  rcases hi with rfl | ⟨rfl,rfl⟩ | ⟨rfl,rfl,rfl⟩
  ·by_cases hx:x = 0
   ·subst hx
    go_wp2_with fail
    exact ⟨by simp,by decide⟩
   ·have HR:=Shut.mk (show R = x by rw [HX.out,if_neg hx])
    go_wp2_with fail
    go_ret
    exact ⟨by rw [HR.out];rfl,rfl⟩
  ·by_cases hy:y = 0
   ·subst hy
    go_wp2_with fail
    exact ⟨by simp,by decide⟩
   ·have HR:=Shut.mk (show R = y by rw [HX.out,if_pos rfl])
    go_wp2_with fail
    go_ret
    exact ⟨by rw [HR.out];rfl,rfl⟩
  ·have HR:=Shut.mk (show R = 0 by rw [HX.out,if_pos rfl])
   go_wp2_with fail
   go_ret
   exact ⟨by rw [HR.out];rfl,rfl⟩
theorem zbe (p q:PlE) (w:World) :
 Calls Tryz.prog 69 #[.agg (z9c p).toArray,.agg (z9c q).toArray] w fun e w'=>e = .returned (.int .i64 (cfP p q)) ∧ ∃ m os,w' = grow (w.drewN m) os:=by
 have HCF:=Shut.mk (show cfP p q = if zk1 p.x.depth q.x.depth = 0 then z1o (z02 p.x) (z02 q.x) else zk1 p.x.depth q.x.depth from cfO_or _ _)
 obtain ⟨CF,hCF⟩:∃ z,cfP p q = z:=⟨_,rfl⟩
 rw [hCF] at HCF ⊢
 clear hCF
 have b1:RowKit.Below w.heap.size w (w.alloc (.cells (z9c p).toArray 86)):=(RowKit.Below.refl _ _).alloc (Nat.le_refl _) _
 have x1:Cells w.heap.size 86 (z9c p).toArray (w.alloc (.cells (z9c p).toArray 86)):=heap_alloc_new w _
 have s1:(w.alloc (.cells (z9c p).toArray 86)).heap.size = w.heap.size + 1:=World.size_alloc _ _
 have b2:RowKit.Below (w.alloc (.cells (z9c p).toArray 86)).heap.size (w.alloc (.cells (z9c p).toArray 86)) ((w.alloc (.cells (z9c p).toArray 86)).alloc (.cells (z9c q).toArray 86)):=(RowKit.Below.refl _ _).alloc (Nat.le_refl _) _
 have x2:Cells (w.alloc (.cells (z9c p).toArray 86)).heap.size 86 (z9c q).toArray ((w.alloc (.cells (z9c p).toArray 86)).alloc (.cells (z9c q).toArray 86)):=heap_alloc_new _ _
 rw [s1] at x2
 have HX1:=Lib.hid (x1.below b2)
 have HX2:=Lib.hid x2
 have HB:=Lib.hid (b1.trans (b2.mono b1.size))
 have HD:=Lib.hid (show w.drawn = ((w.alloc (.cells (z9c p).toArray 86)).alloc (.cells (z9c q).toArray 86)).drawn from rfl)
 clear b1 x1 s1 b2 x2
 go_enter Tryz.func69,Tryz.ntmps69
 go_upto_region 1 with (fail)
 obtain ⟨w2,hw2⟩:∃ x,x = ((w.alloc (.cells (z9c p).toArray 86)).alloc (.cells (z9c q).toArray 86)):=⟨_,rfl⟩
 rw [← hw2] at HX1 HX2 HB HD ⊢
 clear hw2
 have HC:=Lib.hid (fun w'=>z83 (z02 p.x) (z02 q.x) (z2y p.x) (z2y q.x) w')
 have HI:=Lib.hid (fun w'=>dev_cmpI p.x.depth q.x.depth w')
 have HP36:=Lib.hid (fun w' (k:Onw w2 w')=>show w'.cell? ⟨w.heap.size,36,none⟩ = some (.int .i64 p.x.depth) from by
  have:=zc4 p.ok (z7t p (HX1.out.below k.below)).1
  rwa [Nat.zero_add] at this)
 have HQ36:=Lib.hid (fun w' (k:Onw w2 w')=>show w'.cell? ⟨w.heap.size + 1,36,none⟩ = some (.int .i64 q.x.depth) from by
  have:=zc4 q.ok (z7t q (HX2.out.below k.below)).1
  rwa [Nat.zero_add] at this)
 have HPN:=Lib.hid (fun w' (k:Onw w2 w')=>(z7t p (HX1.out.below k.below)).2)
 have HQN:=Lib.hid (fun w' (k:Onw w2 w')=>(z7t q (HX2.out.below k.below)).2)
 have HNP:=Lib.hid (z0z p.x)
 have HNQ:=Lib.hid (z0z q.x)
 obtain ⟨A2,hA2⟩:∃ z,p.x.depth = z:=⟨_,rfl⟩
 obtain ⟨B2,hB2⟩:∃ z,q.x.depth = z:=⟨_,rfl⟩
 obtain ⟨NA,hNA⟩:∃ z,z02 p.x = z:=⟨_,rfl⟩
 obtain ⟨NB,hNB⟩:∃ z,z02 q.x = z:=⟨_,rfl⟩
 rw [hA2] at HP36 HI HCF
 rw [hB2] at HQ36 HI HCF
 rw [hNA] at HPN HC HCF HNP
 rw [hNB] at HQN HC HCF HNQ
 obtain ⟨CI,hCI⟩:∃ z,zk1 A2 B2 = z:=⟨_,rfl⟩
 obtain ⟨CN,hCN⟩:∃ z,z1o NA NB = z:=⟨_,rfl⟩
 rw [hCI] at HI HCF
 rw [hCN] at HC HCF
 have HSA:=Lib.hid (show (Tryz.prog.info? 45).map (·.size) = some NA.length by rw [HNP.out];exact Tryz.sizeI)
 have HSB:=Lib.hid (show (Tryz.prog.info? 45).map (·.size) = some NB.length by rw [HNQ.out];exact Tryz.sizeI)
 clear hA2 hB2 hNA hNB hCI hCN HX1 HX2
 refine z09 (Onw w2) 12 (by kernel_rfl) (by kernel_rfl) ⟨(Below.refl _ _).drew,Nat.le_succ _⟩ ?_
 simp only [zC,zD,zE,zF]
 repeat (first
  | (go_big_quiet_want;refine z03 3 _ rfl ⟨w.heap.size,36,none⟩ _ rfl HP36.out Tryz.isAgg3 ?_;go_big_quiet_on;simp only [Act.put,zS,zA,zB])
  | (go_big_quiet_want;refine z03 3 _ rfl ⟨w.heap.size + 1,36,none⟩ _ rfl HQ36.out Tryz.isAgg3 ?_;go_big_quiet_on;simp only [Act.put,zS,zA,zB])
  | (go_big_quiet_want;refine z0i 45 _ rfl w.heap.size 38 NA _ rfl HPN.out Tryz.underlying45 rfl HSA.out ?_;go_big_quiet_on;simp only [Act.put,zS,zA,zB])
  | (go_big_quiet_want;refine z0i 45 _ rfl (w.heap.size + 1) 38 NB _ rfl HQN.out Tryz.underlying45 rfl HSB.out ?_;go_big_quiet_on;simp only [Act.put,zS,zA,zB])
  | go_big_quiet_step ((intro hs';first
   | (go_at_call 92;exact (HI.out _).mono fun e w' h=>⟨h.1,h.2 ▸ hs'⟩)
   | (go_at_call 78;exact (HC.out _).mono fun e w' h=>⟨h.1,by obtain ⟨qq,oo,rfl⟩:=h.2;exact Onw.grow hs'⟩)
   | rfl)))
 refine wpQuiet_nil ?_
 intro w6 hs6
 have H6:=Lib.hid hs6
 have HO:=Lib.hid (fun g w' h0 h1=>dev_or2 CI CN g w' h0 h1)
 rw [← HCF.out] at HO
 clear hs6
 have hn:=heap_alloc_new w6 (.cells #[.int .i64 CI,.int .i64 CN] 3)
 have HO6:=Lib.hid (HO.out w6.heap.size _ (by rw [Lib.cell_of_heap hn];rfl) (by rw [Lib.cell_of_heap hn];rfl))
 have HW:=Lib.hid (show ∃ m os,w6.alloc (.cells #[.int .i64 CI,.int .i64 CN] 3) = grow (w.drewN m) os from
  zl9 (HB.out.trans ((H6.out.below.trans ((RowKit.Below.refl w6.heap.size w6).alloc (Nat.le_refl _) _ |>.mono H6.out.below.size)).mono HB.out.size)) (by have:=HD.out;have:=H6.out.drawn;show w.drawn ≤ w6.drawn;omega))
 clear hn HO
 go_wp2_with (refine HO6.out.mono ?_;rintro e w7 ⟨rfl,rfl⟩)
 go_ret
 exact ⟨rfl,HW.out⟩
theorem sort_pls {B g n c:Nat} {L:List OpN} {w:World} (h:OwnP B 86 (.slice (some ⟨g,0,none⟩) n c) L w) (hn:L.length = n) (hl:n ≤ 100000) (hr:∀ x ∈ L,x.d.ref.length = 32) (hd:(L.map z02).Nodup) :
 Calls Tryz.prog 68 #[.slice (some ⟨g,0,none⟩) n c,.func (.func 69) #[] #[]] w fun e w'=>e = .returned (.tuple #[]) ∧ OwnP B 86 (.slice (some ⟨g,0,none⟩) n c) (z47 L) w' ∧ w.grownBy w' (some g):=by
 have hlt:g < w.heap.size:=(h.lt (g:=g) rfl).2
 obtain ⟨D,d1,d2,d3⟩:=h.split hr
 have hDl:D.length = n:=by rw [← hn,← d1,List.length_map]
 subst hDl
 have hcon:=AnyQ.slices_SortFunc Tryz.sortPl 70 (fun w=>by show (isAgg 86).run Tryz.prog w = _;unfold isAgg;rw [Sem.run_bind,show (underlying 86).run Tryz.prog w = _ from run_underlying Tryz.underlying86 w];rfl) (fun w=>by obtain ⟨ie,hi,_,hz1,_⟩:=info_parts Tryz.infoPl;show (Go.sizeOf 86).run Tryz.prog w = _;simp [Go.sizeOf,typeInfo,hi,hz1]) z9c z9v (fun x v hv=>zat _ _ _ v hv) cfP swoP 69 #[] g 0 c D.toArray w (enters_of Tryz.func69 (by kernel_rfl) rfl)
  (fun m os dk _ x y=>zbe x y _) (zbi z9v (by decide) d2) hlt (by rw [List.size_toArray];omega)
 rw [List.size_toArray] at hcon
 refine Calls.mono (f:=68) hcon ?_
 rintro e w' ⟨rfl,d',q,os,hp,hs,rfl⟩
 have hp':PermIn 0 D.toArray.size D.toArray d':=by rw [List.size_toArray];exact hp
 have hs':SortedIn (ltOf cfP) 0 D.toArray.size d':=by rw [List.size_toArray];exact hs
 have hdn:((D.toArray.toList.map (·.x)).map z02).Nodup:=by rw [List.toList_toArray,d1];exact hd
 obtain ⟨h1,h2⟩:=zh7 hp' hs' hdn
 rw [List.toList_toArray] at h1
 have hl':d'.toList.length = D.length:=by rw [h1.length_eq]
 have hg:=zaf (enc:=z9c) (K:=70) (w:=w) (g:=g) (n:=q) (os:=os) d'
 refine ⟨rfl,?_,hg⟩
 have he:d'.toList.map (·.x) = z47 L:=zlp h2 (by rw [← d1];exact h1.map _) hd (fun o _=>z0z o)
 have hrow:=za1 (q:=q) (os:=os) z9v (by decide) d2 hl'
 rw [Array.toArray_toList] at hrow
 rw [← he]
 refine OwnP.join (D:=d'.toList) (by rw [hl'];exact hrow) fun p hp=>?_
 obtain ⟨k1,k2⟩:=d3 p (h1.mem_iff.1 hp)
 exact ⟨k1.grown hg (fun a ha h0 e=>k2 a ha h0 e),k2⟩
theorem z8z (X:Nat → Prop) (B:Bs) (T:Ents) (s:DagN) (hs:List (List Nat)) (M:Bh) (K:OpN → Bool) (f:FuncId) (fn:Func) (caps:Array Value) (w:World) (h:SetAt X B T s hs M w) (hn:s.names.Nodup) (ht:Tame s)
 (hfn : Tryz.prog.funcs[f]? = some fn) (hname : (fn.name == "runtime.NumGoroutine") = false) (hbody : fn.body.isNone = false)
 (hK:∀ x ∈ s.ops,∀ pa pc w',Below w.heap.size w w' → Calls Tryz.prog f (#[] ++ [Value.agg (opV x pa pc)].toArray ++ caps) w' fun e w''=>e = .returned (.bool (K x)) ∧ Below w'.heap.size w' w'') :
 Calls Tryz.prog 45 #[.pointer (some ⟨B.gs,0,none⟩),.func (.func f) #[] caps] w fun e w'=>∃ v,e = .returned v ∧ OwnP w.heap.size 86 v (z47 (s.ops.filter K)) w' ∧ Below w.heap.size w w':=by
 have HP:=Lib.hid (zar X B T s hs M K f fn caps w h hn ht hfn hname hbody hK)
 have hperm:(z4r s.ops K (z0g s.names)).Perm (s.ops.filter K):=zc3 hn
 have hdn:((s.ops.filter K).map z02).Nodup:=(List.filter_sublist.map z02).nodup hn
 have hE:∀ L:List OpN,L.Perm (s.ops.filter K) → z47 L = z47 (s.ops.filter K):=fun L hL=>row_same hL hdn fun o _=>z0z o
 have HE:=Lib.hid (hE _ hperm)
 have HD:=Lib.hid ((hperm.map z02).nodup_iff.2 hdn)
 have HR:=Lib.hid (show ∀ x ∈ z4r s.ops K (z0g s.names),x.d.ref.length = 32 from fun x hx=>(ht.ops x (List.mem_filter.1 (hperm.mem_iff.1 hx)).1).d.ref.1)
 have HL:=Lib.hid (show (z4r s.ops K (z0g s.names)).length ≤ 1000 from by
  have h1:=zg3 (L:=s.ops) (K:=K) (ns:=z0g s.names)
  rw [z3a,DagN.names,List.length_map] at h1
  have:=ht.many
  exact Nat.le_trans h1 (by omega))
 obtain ⟨L,hL⟩:∃ L,z4r s.ops K (z0g s.names) = L:=⟨_,rfl⟩
 rw [hL] at HP HE HD HR HL
 clear h hn ht hfn hname hbody hK hperm hdn hE hL
 go_enter Tryz.func45,Tryz.ntmps45
 go_wp2_with (refine HP.out.mono ?_;rintro e w2 ⟨v,rfl,ho,hb⟩)
 have HB:=Lib.hid hb
 have HO:=Lib.hid ho
 clear hb HP
 rcases ho.formB with ⟨rfl,h0⟩ | ⟨gg,cap,rfl,_,hgg,_⟩
 ·have HS:=Lib.hid (AnyF.slices_SortFunc_none Tryz.sortPl none 0 (.func (.func 69) #[] #[]) w2)
  have HL0:=Lib.hid (show z47 (s.ops.filter K) = [] by rw [← HE.out,h0];rfl)
  clear ho h0 HO
  go_wp2_with (refine Calls.mono (f:=68) HS.out ?_;rintro e w3 ⟨rfl,rfl⟩)
  go_ret
  exact ⟨_,rfl,by rw [HL0.out];exact OwnP.nil _ _ _,HB.out⟩
 ·have HG:=Lib.hid hgg
  obtain ⟨n,hn⟩:∃ n,L.length = n:=⟨_,rfl⟩
  have HS:=Lib.hid (sort_pls ho rfl (by have:=HL.out;omega) HR.out HD.out)
  rw [hn] at HS ⊢
  clear ho hgg hn HO
  go_wp2_with (refine HS.out.mono ?_;rintro e w3 ⟨rfl,ho3,hg3⟩)
  go_ret
  exact ⟨_,rfl,by rw [← HE.out];exact ho3,HB.out.grown hg3 HB.out.size (fun k e=>by
   obtain rfl:gg = k:=by injection e
   exact HG.out)⟩
end Go.Proofs.YtjomgkiphecljaaGreatDoor
namespace Go.Proofs.YtjomgkiphecljaaGreatDoor
open Go.RowKit Go.BigFrame
theorem Tryz.infoOpL:(Tryz.prog.info? 49).map (fun i=>(i.zero,i.size,i.bytes)) = some (some (.agg (opV z04 none 0)),38,112):=by kernel_rfl
theorem Tryz.zeroPl:(Tryz.prog.info? 86).bind (·.zero) = some (.agg (opL z04 none 0 ++ z05 .u8 zeroI).toArray):=by kernel_rfl
theorem Tryz.sizePl:(Tryz.prog.info? 86).map (·.size) = some 70:=by kernel_rfl
theorem take_set {L:List OpN} {k m:Nat} (hm:L.length = m) (h:k < m):(L.take k ++ List.replicate (m - k) z04).set k (L.getD k z04) = L.take (k + 1) ++ List.replicate (m - (k + 1)) z04:=by
 have hl:(L.take k).length = k:=by rw [List.length_take];omega
 rw [List.set_append_right _ _ (by omega),hl,Nat.sub_self,show m - k = (m - (k + 1)) + 1 by omega,List.replicate_succ,List.set_cons_zero,List.take_succ_eq_append_getElem (by omega),List.append_assoc,List.getD_eq_getElem?_getD,List.getElem?_eq_getElem (by omega)]
 rfl
theorem zda {g:Nat} {t:TypeId} {x:OpN} {pa:Option Addr} {pc:Nat} {w:World} (hr:x.d.ref.length = 32) (h:Cells g t (plV x pa pc) w):w.rangeAt g 0 (opL x pa pc) ∧ w.rangeAt g 38 (z05 .u8 (z02 x)):=by
 have h1:w.rangeAt g 0 (plL x pa pc):=fun j v hj=>by
  rw [Nat.zero_add,h.at,plV,List.getElem?_toArray]
  exact hj
 obtain ⟨h2,h3⟩:=zi5 hr h1
 exact ⟨h2,h3⟩
theorem zcx {B:Nat} {v:Value} {L:List OpN} {w:World} (h:OwnP B 86 v L w) (hr:∀ x ∈ L,x.d.ref.length = 32) (hl:L.length ≤ 1000) :
 Calls Tryz.prog 44 #[v] w fun e w'=>∃ v',e = .returned v' ∧ OwnO w.heap.size 49 v' L w' ∧ Below w.heap.size w w':=by
 obtain ⟨ap,cp,rfl⟩:=h.form
 obtain ⟨i0,hi,hz0,hz1,hz2⟩:=info_parts Tryz.infoOpL
 have HIF:=Lib.hid hi
 have HZ0:=Lib.hid hz0
 have HZ1:=Lib.hid hz1
 have HZ2:=Lib.hid hz2
 have HP:=Lib.hid h
 have HR:=Lib.hid hr
 obtain ⟨m,hm⟩:∃ m,L.length = m:=⟨_,rfl⟩
 have HM:=Shut.mk hm
 have HM2:=Lib.hid (show m ≤ 1000 from hm ▸ hl)
 rw [hm]
 clear h hr hl hi hz0 hz1 hz2 hm
 go_enter Tryz.func44,Tryz.ntmps44
 go_wp2_with (at_make;refine wpList_make_full _ rfl _ _ 50 rfl w.heap.size 49 i0 _ 38 Tryz.underlying50 HIF.out HZ0.out HZ1.out .i64 .i64 _ _ m rfl rfl rfl rfl (by rw [HZ2.out];have:=HM2.out;omega) (by unfold maxLen;have:=HM2.out;omega) (Nat.le_refl _) ?_)
 intro w2 ho2 hg2
 have HO2:=Lib.hid (OwnO.made ho2)
 have HB2:=Lib.hid ((Below.refl w.heap.size w).grown hg2 (Nat.le_refl _) (fun k hk=>by cases hk))
 obtain ⟨gr,hgr⟩:∃ g,w.heap.size = g:=⟨_,rfl⟩
 have HGR:=Shut.mk hgr
 rw [hgr] at HO2 ⊢
 clear ho2 hg2 hgr
 have hm2:=HM2.out
 go_wp2_with fail
 go_loopw [11] (fun i wr=>∃ k:Nat,i = .int .i64 k ∧ k ≤ m ∧ OwnO gr 49 (.slice (some ⟨gr,0,none⟩) m m) (L.take k ++ List.replicate (m - k) z04) wr ∧ Below gr w wr) (fun i _=>m - (intOf i).toNat)
 case atStart=>exact ⟨0,rfl,Nat.zero_le _,HO2.out,by have:=HB2.out;rwa [HGR.out] at this⟩
 case round =>
  obtain ⟨wi,rfl⟩:∃ z,z = wr:=⟨_,rfl⟩
  obtain ⟨k,rfl,hk,ho,hb⟩:=hrel
  have HO:=Lib.hid ho
  have HB:=Lib.hid hb
  clear hb ho HO2 HB2
  by_cases hlt:k < m
  ·have hx:L[k]? = some (L.getD k z04):=by
    rw [List.getD_eq_getElem?_getD,List.getElem?_eq_getElem (by rw [HM.out];exact hlt)]
    rfl
   obtain ⟨gp,rfl,hgp⟩:∃ g,ap = some ⟨g,0,none⟩ ∧ g < w.heap.size:=by
    rcases HP.out.formB with ⟨_,h2⟩ | ⟨g,c,h2,_,_,h3⟩
    ·have:=HM.out;rw [h2] at this;simp at this;omega
    ·injection h2 with h4 _ _
     exact ⟨g,h4,h3⟩
   have hts:=take_set (L:=L) HM.out hlt
   have hxm:L.getD k z04 ∈ L:=List.mem_of_getElem? hx
   obtain ⟨x,hxe⟩:∃ x,L.getD k z04 = x:=⟨_,rfl⟩
   rw [hxe] at hx hts hxm
   have HTS:=Shut.mk hts
   have hr:=HR.out x hxm
   have HXR:=Lib.hid hr
   obtain ⟨hgl,pa,pc,q1,q2,q3⟩:=HP.out.get hx
   have HQ1:=Lib.hid (show wi.rangeAt gp (k * 70) (plL x pa pc) by rw [Nat.mul_comm];exact z0c q1 HB.out (by rw [← HGR.out];exact hgl))
   have HQ2:=Lib.hid (show IAt pa x.preds wi from q2.below (by rw [HGR.out];exact HB.out))
   have HQ3:=Lib.hid (show ∀ a,pa = some a → x.preds ≠ [] → gr ≠ a.block from fun a ha h0 e=>by have:=q2.lt h0 ha;have:=HGR.out;omega)
   have HSL:=Lib.hid (show (Tryz.prog.info? 86).map (·.size) = some (plL x pa pc).length by rw [z3m hr];exact Tryz.sizePl)
   have HSV:=Lib.hid (show (Tryz.prog.info? 86).map (·.size) = some (plV x pa pc).size by rw [plV,List.size_toArray,z3m hr];exact Tryz.sizePl)
   have HSZ:=Lib.hid (show (opL z04 none 0 ++ z05 .u8 zeroI).toArray.size = (plV x pa pc).size by rw [plV,List.size_toArray,List.size_toArray,z3m hr];rfl)
   have HSA:=Lib.hid (show (plV x pa pc).all (·.oneCell') = true by rw [plV,List.all_toArray];exact List.all_eq_true.2 (zat x pa pc))
   have HSO:=Lib.hid (show (Tryz.prog.info? 49).map (·.size) = some (opL x pa pc).length by rw [z14 hr];exact Tryz.sizeO)
   clear hx hts hxe hr q1 q2 q3 hgl hxm
   go_wp2_with (first
    | (refine wpList_load_mid rfl 86 _ rfl gp (k * 70) rfl (plL x pa pc) _ HQ1.out Tryz.underlying86 rfl HSL.out ?_)
    | (refine z0b rfl 86 rfl (opL z04 none 0 ++ z05 .u8 zeroI) Tryz.zeroPl ?_)
    | (refine z00 rfl 86 _ _ rfl rfl wi.heap.size (opL z04 none 0 ++ z05 .u8 zeroI).toArray (plV x pa pc) 86 rfl rfl (heap_alloc_new wi _) HSV.out HSZ.out HSA.out ?_))
   intro w5 hcs hbs
   have hb5:Below wi.heap.size wi w5:=But.toBelow ((Below.refl _ wi).alloc (Nat.le_refl _) _) hbs.out (Nat.le_refl _) (by rw [World.size_alloc];exact Nat.le_succ _)
   have HC5:=Lib.hid (zda HXR.out hcs.out).1
   have HO5:=Lib.hid (HO.out.below hb5)
   have HB5:=Lib.hid (HB.out.trans (hb5.mono (HGR.out ▸ HB.out.size)))
   have HQ5:=Lib.hid (HQ2.out.below hb5)
   have HLN:=Lib.hid (show m = (L.take k ++ List.replicate (m - k) z04).length by rw [List.length_append,List.length_take,List.length_replicate,HM.out];omega)
   clear hcs hbs hb5
   go_wp2_with (first
    | (refine wpList_load_mid rfl 49 _ rfl wi.heap.size 0 rfl (opL x pa pc) _ HC5.out Tryz.underlying49 rfl HSO.out ?_)
    | (refine zb2 rfl 49 _ _ rfl rfl gr gr m m k (k * 38) 49 _ x pa pc HLN.out (Nat.mul_comm _ _) rfl rfl HO5.out hlt HXR.out HQ5.out HQ3.out Tryz.sizeO ?_))
   intro w6 ho6 hb6
   have HO6:=Lib.hid (HTS.out ▸ ho6.out)
   have HB6:=Lib.hid (But.toBelow HB5.out hb6.out (Nat.le_refl _) (HGR.out ▸ HB5.out.size))
   clear ho6 hb6
   go_wp2_with fail
   exact ⟨⟨k + 1,by go_num,by omega,HO6.out,HB6.out⟩,by simp [intOf];omega⟩
  ·obtain rfl:k = m:=by omega
   have HE:=Lib.hid (show L.take k ++ List.replicate (k - k) z04 = L by rw [Nat.sub_self,List.replicate_zero,List.append_nil,List.take_of_length_le (by rw [HM.out];exact Nat.le_refl _)])
   go_wp2_with fail
   go_ret
   exact ⟨_,rfl,by rw [HGR.out];exact HE.out ▸ HO.out,by rw [HGR.out];exact HB.out⟩
theorem zk3 (x:OpN) (pa:Option Addr) (pc:Nat) (w:World):Calls Tryz.prog 105 #[.agg (opV x pa pc)] w fun e w'=>e = .returned (.bool true) ∧ Below w.heap.size w w':=by
 have HB:=Lib.hid (show Below w.heap.size w (w.alloc (.cells (opV x pa pc) 49)) from (Below.refl _ _).alloc (Nat.le_refl _) _)
 go_enter Tryz.func105,Tryz.ntmps105
 go_wp2_with fail
 go_ret
 exact ⟨rfl,HB.out⟩
theorem ziw (L:List OpN):L.filter (fun _=>true) = L:=List.filter_eq_self.2 fun _ _=>rfl
theorem zj8 {L:List OpN} {K:OpN → Bool} (hd:(L.map z02).Nodup):z47 (L.filter K) = (z47 L).filter K:=by
 refine (zlp (L:=(z47 L).filter K) ?_ ((z24 L).filter K) ((List.filter_sublist.map z02).nodup hd) fun o _=>z0z o).symm
 exact (z80 hd fun o _=>z0z o).sublist List.filter_sublist
section
variable (X:Nat → Prop) (B:Bs) (T:Ents) (s:DagN) (hs:List (List Nat)) (M:Bh) (w:World)
theorem zlb (h:SetAt X B T s hs M w) (hn:s.names.Nodup) (ht:Tame s) :
 Calls Tryz.prog 45 #[.pointer (some ⟨B.gs,0,none⟩),.func (.func 105) #[] #[]] w fun e w'=>∃ v,e = .returned v ∧ OwnP w.heap.size 86 v (z47 s.ops) w' ∧ Below w.heap.size w w':=by
 have:=z8z X B T s hs M (fun _=>true) 105 _ #[] w h hn ht Tryz.func105 rfl rfl (fun x _ pa pc w' _=>zk3 x pa pc w')
 rw [ziw] at this
 exact this
theorem za6 (hn:s.names.Nodup) (ht:Tame s):(z47 s.ops).length ≤ 1000 ∧ (∀ x ∈ z47 s.ops,x.Fit) ∧ (∀ x ∈ z47 s.ops,x.d.ref.length = 32) ∧ ((z47 s.ops).map z02).Nodup:=by
 have hp:=z24 s.ops
 have hF:∀ x ∈ z47 s.ops,x.Fit:=fun x hx=>ht.ops x (hp.mem_iff.1 hx)
 exact ⟨by rw [hp.length_eq];have:=ht.many;omega,hF,fun x hx=>(hF x hx).d.ref.1,(hp.map z02).nodup_iff.2 hn⟩
theorem dev_row (h:SetAt X B T s hs M w) (hn:s.names.Nodup) (ht:Tame s) :
 Calls Tryz.prog 75 #[.pointer (some ⟨B.gs,0,none⟩)] w fun e w'=>∃ v,e = .returned v ∧ OwnO w.heap.size 49 v (z47 s.ops) w' ∧ Below w.heap.size w w':=by
 have HA:=Lib.hid (zlb X B T s hs M w h hn ht)
 have HF:=Lib.hid (za6 s hn ht)
 clear h hn ht
 go_enter Tryz.func75,Tryz.ntmps75
 go_wp2_with (first
  | (refine HA.out.mono ?_;rintro e w2 ⟨v,rfl,ho,hb⟩;have HB:=Lib.hid hb;have HBR:=Lib.hid (zcx ho HF.out.2.2.1 HF.out.1);clear ho hb)
  | (refine HBR.out.mono ?_;rintro e w3 ⟨v3,rfl,ho3,hb3⟩;have HO3:=Lib.hid ho3;have HB3:=Lib.hid hb3;clear ho3 hb3))
 go_ret
 exact ⟨_,rfl,HO3.out.mono HB.out.size,HB.out.trans (HB3.out.mono HB.out.size)⟩
end
theorem zlf {L:List (List Nat)} {k m:Nat} (hm:L.length = m) (h:k < m):(L.take k ++ List.replicate (m - k) (List.replicate 32 0)).set k (L.getD k []) = L.take (k + 1) ++ List.replicate (m - (k + 1)) (List.replicate 32 0):=by
 have hl:(L.take k).length = k:=by rw [List.length_take];omega
 rw [List.set_append_right _ _ (by omega),hl,Nat.sub_self,show m - k = (m - (k + 1)) + 1 by omega,List.replicate_succ,List.set_cons_zero,List.take_succ_eq_append_getElem (by omega),List.append_assoc,List.getD_eq_getElem?_getD,List.getElem?_eq_getElem (by omega)]
 rfl
theorem zlt (X:Nat → Prop) (B:Bs) (T:Ents) (s:DagN) (hs:List (List Nat)) (M:Bh) (w:World) (h:SetAt X B T s hs M w) (hn:s.names.Nodup) (ht:Tame s) :
 Calls Tryz.prog 74 #[.pointer (some ⟨B.gs,0,none⟩)] w fun e w'=>∃ v,e = .returned v ∧ OwnI w.heap.size 45 v ((z47 s.ops).map z02) w' ∧ Below w.heap.size w w':=by
 have HA:=Lib.hid (zlb X B T s hs M w h hn ht)
 have HF:=Lib.hid (za6 s hn ht)
 clear h hn ht
 obtain ⟨L,hL⟩:∃ L,z47 s.ops = L:=⟨_,rfl⟩
 rw [hL] at HA HF ⊢
 clear hL
 obtain ⟨i0,hi,hz0,hz1,hz2⟩:=info_parts Tryz.infoI32
 have HIF:=Lib.hid hi
 have HZ0:=Lib.hid hz0
 have HZ1:=Lib.hid hz1
 have HZ2:=Lib.hid hz2
 have HR:=Lib.hid HF.out.2.2.1
 obtain ⟨m,hm⟩:∃ m,L.length = m:=⟨_,rfl⟩
 have HM:=Shut.mk hm
 have hm2:m ≤ 1000:=hm ▸ HF.out.1
 clear hi hz0 hz1 hz2 hm
 go_enter Tryz.func74,Tryz.ntmps74
 go_wp2_with (first
  | (refine HA.out.mono ?_;rintro e w1 ⟨v1,rfl,ho1,hb1⟩;obtain ⟨ap,cp,rfl⟩:=ho1.form;have HB1:=Lib.hid hb1;have HP:=Lib.hid ho1;rw [HM.out] at HP ⊢;clear ho1 hb1)
  | (at_make;refine wpList_make_full _ rfl _ _ 40 rfl w1.heap.size 45 i0 _ 32 Tryz.underlying40 HIF.out HZ0.out HZ1.out .i64 .i64 _ _ m rfl rfl rfl rfl (by rw [HZ2.out];omega) (by unfold maxLen;omega) (Nat.le_refl _) ?_))
 intro w2 ho2 hg2
 have HO2:=Lib.hid (OwnI.made ho2)
 have HB2:=Lib.hid ((Below.refl w1.heap.size w1).grown hg2 (Nat.le_refl _) (fun k hk=>by cases hk))
 obtain ⟨gr,hgr⟩:∃ g,w1.heap.size = g:=⟨_,rfl⟩
 have HGR:=Shut.mk hgr
 rw [hgr] at HO2 HB2 ⊢
 clear ho2 hg2 hgr
 go_wp2_with fail
 go_loopw [14] (fun i wr=>∃ k:Nat,i = .int .i64 k ∧ k ≤ m ∧ OwnI gr 45 (.slice (some ⟨gr,0,none⟩) m m) ((L.map z02).take k ++ List.replicate (m - k) (List.replicate 32 0)) wr ∧ Below gr w1 wr) (fun i _=>m - (intOf i).toNat)
 case atStart=>exact ⟨0,rfl,Nat.zero_le _,HO2.out,HB2.out⟩
 case round =>
  obtain ⟨wi,rfl⟩:∃ z,z = wr:=⟨_,rfl⟩
  obtain ⟨k,rfl,hk,ho,hb⟩:=hrel
  have HO:=Lib.hid ho
  have HB:=Lib.hid hb
  clear hb ho HO2 HB2
  by_cases hlt:k < m
  ·have hx:L[k]? = some (L.getD k z04):=by
    rw [List.getD_eq_getElem?_getD,List.getElem?_eq_getElem (by rw [HM.out];exact hlt)]
    rfl
   obtain ⟨gp,rfl,hgp⟩:∃ g,ap = some ⟨g,0,none⟩ ∧ g < w1.heap.size:=by
    rcases HP.out.formB with ⟨_,h2⟩ | ⟨g,c,h2,_,_,h3⟩
    ·have:=HM.out;rw [h2] at this;simp at this;omega
    ·injection h2 with h4 _ _
     exact ⟨g,h4,h3⟩
   have hnx:(L.map z02).getD k [] = z02 (L.getD k z04):=by
    rw [List.getD_eq_getElem?_getD,List.getElem?_map,hx]
    rfl
   have hts:=zlf (L:=L.map z02) (by rw [List.length_map];exact HM.out) hlt
   have hxm:L.getD k z04 ∈ L:=List.mem_of_getElem? hx
   obtain ⟨x,hxe⟩:∃ x,L.getD k z04 = x:=⟨_,rfl⟩
   rw [hxe] at hx hnx hxm
   rw [hnx] at hts
   have HTS:=Shut.mk hts
   have hr:=HR.out x hxm
   have HXR:=Lib.hid hr
   obtain ⟨hgl,pa,pc,q1,q2,q3⟩:=HP.out.get hx
   have HQ1:=Lib.hid (show wi.rangeAt gp (k * 70) (plL x pa pc) by rw [Nat.mul_comm];exact z0c q1 HB.out (by rw [← HGR.out];exact hgl))
   have HSL:=Lib.hid (show (Tryz.prog.info? 86).map (·.size) = some (plL x pa pc).length by rw [z3m hr];exact Tryz.sizePl)
   have HSV:=Lib.hid (show (Tryz.prog.info? 86).map (·.size) = some (plV x pa pc).size by rw [plV,List.size_toArray,z3m hr];exact Tryz.sizePl)
   have HSZ:=Lib.hid (show (opL z04 none 0 ++ z05 .u8 zeroI).toArray.size = (plV x pa pc).size by rw [plV,List.size_toArray,List.size_toArray,z3m hr];rfl)
   have HSA:=Lib.hid (show (plV x pa pc).all (·.oneCell') = true by rw [plV,List.all_toArray];exact List.all_eq_true.2 (zat x pa pc))
   have HSI:=Lib.hid (show (Tryz.prog.info? 45).map (·.size) = some (z02 x).length by rw [z0z];exact Tryz.sizeI)
   clear hx hts hxe hr q1 q2 q3 hgl hxm hnx
   go_wp2_with (first
    | (refine wpList_load_mid rfl 86 _ rfl gp (k * 70) rfl (plL x pa pc) _ HQ1.out Tryz.underlying86 rfl HSL.out ?_)
    | (refine z0b rfl 86 rfl (opL z04 none 0 ++ z05 .u8 zeroI) Tryz.zeroPl ?_)
    | (refine z00 rfl 86 _ _ rfl rfl wi.heap.size (opL z04 none 0 ++ z05 .u8 zeroI).toArray (plV x pa pc) 86 rfl rfl (heap_alloc_new wi _) HSV.out HSZ.out HSA.out ?_))
   intro w5 hcs hbs
   have hb5:Below wi.heap.size wi w5:=But.toBelow ((Below.refl _ wi).alloc (Nat.le_refl _) _) hbs.out (Nat.le_refl _) (by rw [World.size_alloc];exact Nat.le_succ _)
   have HC5:=Lib.hid (zda HXR.out hcs.out).2
   have HO5:=Lib.hid (HO.out.below hb5)
   have HB5:=Lib.hid (HB.out.trans (hb5.mono (HGR.out ▸ HB.out.size)))
   have HLN:=Lib.hid (show m = ((L.map z02).take k ++ List.replicate (m - k) (List.replicate 32 0)).length by rw [List.length_append,List.length_take,List.length_replicate,List.length_map,HM.out];omega)
   have HLI:=Lib.hid (show Ids ((L.map z02).take k ++ List.replicate (m - k) (List.replicate 32 0)) from Ids.append (fun y hy=>by
    obtain ⟨o,_,rfl⟩:=List.mem_map.1 (List.mem_of_mem_take hy)
    exact z2y o) (Ids.zeros _))
   have HNO:=Lib.hid (z2y x)
   obtain ⟨nx,hnx⟩:∃ z,z02 x = z:=⟨_,rfl⟩
   rw [hnx] at HC5 HTS HSI HNO
   clear hcs hbs hb5 hnx
   go_wp2_with (first
    | (refine z0a rfl 45 _ rfl wi.heap.size 38 nx _ rfl HC5.out Tryz.underlying45 rfl HSI.out ?_)
    | (refine z4m rfl 45 _ _ rfl rfl gr gr m m k (k * 32) 45 _ nx HLN.out (Nat.mul_comm _ _) rfl rfl HO5.out HLI.out hlt HNO.out.1 HNO.out.2 Tryz.sizeI ?_))
   intro w6 ho6 hb6
   have HO6:=Lib.hid (HTS.out ▸ ho6.out)
   have HB6:=Lib.hid (But.toBelow HB5.out hb6.out (Nat.le_refl _) (HGR.out ▸ HB5.out.size))
   clear ho6 hb6
   go_wp2_with fail
   exact ⟨⟨k + 1,by go_num,by omega,HO6.out,HB6.out⟩,by simp [intOf];omega⟩
  ·obtain rfl:k = m:=by omega
   have HE:=Lib.hid (show (L.map z02).take k ++ List.replicate (k - k) (List.replicate 32 0) = L.map z02 by rw [Nat.sub_self,List.replicate_zero,List.append_nil,List.take_of_length_le (by rw [List.length_map,HM.out];exact Nat.le_refl _)])
   go_wp2_with fail
   go_ret
   exact ⟨_,rfl,OwnI.mono (HE.out ▸ HO.out) (HGR.out ▸ HB1.out.size),HB1.out.trans (HB.out.mono (HGR.out ▸ HB1.out.size))⟩
theorem zj4 (s:DagN):((z47 s.ops).map z02).length = s.ops.length:=by rw [List.length_map,(z24 s.ops).length_eq]
theorem rowN_ids (s:DagN):Ids ((z47 s.ops).map z02):=fun x hx=>by
 obtain ⟨o,_,rfl⟩:=List.mem_map.1 hx
 exact z2y o
end Go.Proofs.YtjomgkiphecljaaGreatDoor
