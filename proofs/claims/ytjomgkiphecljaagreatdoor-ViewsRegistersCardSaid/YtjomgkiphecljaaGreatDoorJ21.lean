/-
  Joined: The developers' remaining of layer 12: some of the wanted Adds; all of them, where no operation has Preds.; Contracts of the library laid at this program, in plain words.; The developers' among; what Of and Keys want.; What Of and Keys want of an operation.; Rows of texts; sorted and compacted, a row of texts rises, each once.; The developers' Keys.; Layer 12 as plain mathematics: the last of a key that was put, what a set of a key holds.; The developers' ascending and Members of layer 12.; The document's GoodDraft.
-/
import Derived.Laws.AppendOwnNone
import Derived.Lib.OwnBridge
import Derived.Lib.SlicesCompact
import Derived.Shelf.Slices.CompactS
import Derived.Shelf.Slices.In.SortAlone
import Derived.Shelf.Slices.In.SortNone
import Derived.Sort.EncStr
import Derived.Sort.EveryDepth
import Derived.Sort.OwnSorted
import Derived.Sort.Walk0
import Derived.Test.YtjomgkiphecljaaGreatDoorProg
import Derived.Test.YtjomgkiphecljaaGreatDoorJ01
import Derived.Test.YtjomgkiphecljaaGreatDoorJ04
import Derived.Test.YtjomgkiphecljaaGreatDoorJ05
import Derived.Test.YtjomgkiphecljaaGreatDoorJ11
import Derived.Test.YtjomgkiphecljaaGreatDoorJ12
import Derived.Test.YtjomgkiphecljaaGreatDoorJ19
import Derived.Test.YtjomgkiphecljaaGreatDoorJ20
set_option maxRecDepth 100000
set_option maxHeartbeats 8000000
namespace Go.Proofs.YtjomgkiphecljaaGreatDoor
open Go.RowKit Go.BigFrame Go.Sort Go.Shelf
def z6b (K:OpN → Bool) (o:OpN):Bool:=decide (o.d.kind = 1) && K o
def zfu (K:OpN → Bool) (x:VpN):Bool:=decide (x.op.d.kind = 1) && (!x.dr && K x.op)
def zbv (K:OpN → Bool) (L:List VpN):List OpN:=(L.filter (zfu K)).map (·.op)
theorem zkc (K:OpN → Bool) (T:List VpN) (x:VpN):zbv K (T ++ [x]) = zbv K T ++ if zfu K x = true then [x.op] else []:=by
 rw [zbv,List.filter_append,List.map_append]
 congr 1
 by_cases h:zfu K x = true
 ·rw [if_pos h,List.filter_cons_of_pos h];rfl
 ·rw [if_neg h,List.filter_cons_of_neg h];rfl
theorem zht (K:OpN → Bool) (x:VpN):zfu K x = (z6b K x.op && !x.dr):=by
 rw [zfu,z6b]
 cases decide (x.op.d.kind = 1) <;> cases x.dr <;> cases K x.op <;> rfl
theorem resN_sub (K:OpN → Bool) (L:List VpN):(zbv K L).Sublist ((L.map (·.op)).filter (z6b K)):=by
 rw [zbv,List.filter_map]
 refine List.Sublist.map _ ?_
 have:L.filter (zfu K) = (L.filter (z6b K ∘ fun x=>x.op)).filter fun x=>!x.dr:=by
  rw [List.filter_filter]
  refine List.filter_congr fun x _=>?_
  rw [zht,Bool.and_comm]
  rfl
 rw [this]
 exact List.filter_sublist
theorem resN_all (K:OpN → Bool) (L:List VpN) (h:∀ x ∈ L,x.dr = false):zbv K L = (L.map (·.op)).filter (z6b K):=by
 rw [zbv,List.filter_map]
 congr 1
 refine List.filter_congr fun x hx=>?_
 rw [zht,h x hx]
 simp
theorem resN_len (K:OpN → Bool) (L:List VpN):(zbv K L).length ≤ L.length:=by
 rw [zbv,List.length_map]
 exact List.length_filter_le _ _
theorem sans_ops {L L':List VpN} (h:L'.map z3t = L.map z3t):L'.map (·.op) = L.map (·.op):=by
 have:=congrArg (List.map (·.1)) h
 simpa [List.map_map,Function.comp_def,z3t] using this
theorem zm6 {L L':List VpN} (h:L'.map z3n = L.map z3n):L'.map (·.op) = L.map (·.op):=by
 have:=congrArg (List.map (·.1)) h
 simpa [List.map_map,Function.comp_def,z3n] using this
theorem zf8 (X:Nat → Prop) (B:Bs) (T:Ents) (s:DagN) (hs:List (List Nat)) (M:Bh) (K:OpN → Bool) (f:FuncId) (fn:Func) (caps:Array Value) (w:World) (h:SetAt X B T s hs M w) (hn:s.names.Nodup) (ht:Tame s)
 (hfn : Tryz.prog.funcs[f]? = some fn) (hname : (fn.name == "runtime.NumGoroutine") = false) (hbody : fn.body.isNone = false)
 (hK:∀ x ∈ s.ops,∀ pa pc w',Below w.heap.size w w' → Calls Tryz.prog f (#[] ++ [Value.agg (opV x pa pc)].toArray ++ caps) w' fun e w''=>e = .returned (.bool (K x)) ∧ Below w'.heap.size w' w'') :
 Calls Tryz.prog 23 #[.pointer (some ⟨B.gs,0,none⟩),.func (.func f) #[] caps] w fun e w'=>∃ v R,e = .returned v ∧ OwnO w.heap.size 49 v R w' ∧ R.Sublist ((z47 s.ops).filter (z6b K)) ∧ ((∀ o ∈ s.ops,o.preds = []) → R = (z47 s.ops).filter (z6b K)) ∧ Below w.heap.size w w':=by
 have HAR:=Lib.hid (zgp X B T s hs M w h hn ht)
 have hpm:=z24 s.ops
 have HKR:=Lib.hid (show ∀ x ∈ z47 s.ops,∀ pa pc w',Below w.heap.size w w' → Calls Tryz.prog f (#[] ++ [Value.agg (opV x pa pc)].toArray ++ caps) w' fun e w''=>e = .returned (.bool (K x)) ∧ Below w'.heap.size w' w'' from fun x hx=>hK x (hpm.mem_iff.1 hx))
 have HFR:=Lib.hid (show ∀ x ∈ z47 s.ops,x.Fit from fun x hx=>ht.ops x (hpm.mem_iff.1 hx))
 have HPE:=Lib.hid (show (∀ o ∈ s.ops,o.preds = []) → ∀ x ∈ z47 s.ops,x.preds = [] from fun q x hx=>q x (hpm.mem_iff.1 hx))
 have hlen:=hpm.length_eq
 have hops:s.ops.length ≤ 1000:=by have:=ht.many;omega
 have HFN:=Shut.mk hfn
 have HNM:=Shut.mk hname
 have HBD:=Shut.mk hbody
 obtain ⟨n,hne⟩:∃ n,s.ops.length = n:=⟨_,rfl⟩
 rw [hne] at HAR hlen hops
 obtain ⟨RW,hRW⟩:∃ z,z47 s.ops = z:=⟨_,rfl⟩
 rw [hRW] at HAR HKR HFR HPE hlen ⊢
 have HRW:=Shut.mk hlen
 clear h hn ht hfn hname hbody hK hpm hlen hne hRW
 go_enter Tryz.func23,Tryz.ntmps23
 go_wp2_with fail
 refine HAR.out.mono ?_
 rintro e w1 ⟨v1,L0,rfl,ho1,hr1,hf1,hb1⟩
 obtain ⟨ao,c,rfl⟩:=ho1.form
 have hl0:L0.length = n:=by have:=congrArg List.length hr1;rw [List.length_map,HRW.out] at this;exact this
 rw [hl0] at ho1 ⊢
 have HIN:=Lib.hid (show ∀ x ∈ L0,x.op ∈ RW from fun x hx=>hr1 ▸ List.mem_map.2 ⟨x,hx,rfl⟩)
 have HNB:=Lib.hid (zls w.heap.size w1.heap.size L0 ao n c K f fn caps w1 ho1 hl0 hb1.size (Nat.le_refl _) (fun x hx=>HFR.out _ (HIN.out x hx)) (fun x hx=>by rw [(hf1 x hx).1];exact Nat.zero_le _) hops HFN.out HNM.out HBD.out (fun x hx pa pc w' hb=>HKR.out _ (HIN.out x hx) pa pc w' (hb1.trans hb)))
 have HR1:=Shut.mk hr1
 have HF1:=Lib.hid hf1
 have HB1:=Lib.hid hb1
 clear ho1 hr1 hf1 hb1 hl0
 go_wp2_with fail
 refine HNB.out.mono ?_
 rintro e w2 ⟨N,L1,rfl,hN,ho2,hs2,hn2,hb2⟩
 have HO2:=Lib.hid ho2
 have HS2:=Shut.mk hs2
 have HN2:=Lib.hid hn2
 have HB2:=Lib.hid (HB1.out.trans hb2)
 have HZ2:=Lib.hid hb2.size
 have HL1:=Shut.mk (show L1.length = n by
  have h1:=congrArg List.length hs2
  have h2:=congrArg List.length HR1.out
  rw [List.length_map,List.length_map] at h1
  rw [List.length_map,HRW.out] at h2
  omega)
 have HF2:=Lib.hid (show ∀ x ∈ L1,x.op.Fit ∧ x.pr.length ≤ 1000 ∧ ∀ p ∈ x.pr,p < n from fun x hx=>by
  obtain ⟨y,hy,e1,e2,_⟩:=zgw hs2 hx
  obtain ⟨_,_,h3,h4⟩:=HF1.out y hy
  have hfit:=HFR.out _ (HIN.out y hy)
  exact ⟨e1 ▸ hfit,by rw [← e2,h3];exact Nat.le_trans hfit.many (by decide),e2 ▸ h4⟩)
 have HE2:=Lib.hid (show (∀ x ∈ RW,x.preds = []) → ∀ x ∈ L1,x.pr = [] ∧ x.dr = false from fun q x hx=>by
  obtain ⟨y,hy,e1,e2,e3⟩:=zgw hs2 hx
  obtain ⟨_,h2,h3,_⟩:=HF1.out y hy
  rw [q _ (HIN.out y hy)] at h3
  exact ⟨e2 ▸ List.length_eq_zero_iff.1 h3,e3 ▸ h2⟩)
 have HOP:=Shut.mk (show L1.map (·.op) = RW from (zm6 hs2).trans HR1.out)
 clear ho2 hs2 hn2 hb2 HNB HAR HIN HF1 HS2 HR1
 go_wp2_with fail
 go_loopw [7] (fun i wr=>∃ (q:Nat) (L2:List VpN),i = .int .i64 q ∧ 1 ≤ q ∧ q ≤ N + 64 ∧ OwnQ w.heap.size w1.heap.size 93 (.slice ao n c) L2 wr ∧ L2.map z3t = L1.map z3t ∧ ((∀ x ∈ L1,x.pr = []) → L2 = L1) ∧ Below w.heap.size w wr ∧ w1.heap.size ≤ wr.heap.size) (fun i _=>N + 65 - (intOf i).toNat)
 case atStart=>exact ⟨1,L1,rfl,Nat.le_refl _,by omega,HO2.out,rfl,fun _=>rfl,HB2.out,HZ2.out⟩
 case round =>
  clear HO2 HB2 HZ2
  obtain ⟨wi,rfl⟩:∃ z,z = wr:=⟨_,rfl⟩
  obtain ⟨q,L2,rfl,hq1,hq2,ho,hs,he,hb,hz⟩:=hrel
  have HOI:=Lib.hid ho
  have HSI:=Shut.mk hs
  have HEI:=Lib.hid he
  have HBI:=Lib.hid hb
  have HZI:=Lib.hid hz
  clear ho hs he hb hz
  have HLN:=Shut.mk (show L2.length = n by have:=congrArg List.length HSI.out;rw [List.length_map,List.length_map,HL1.out] at this;exact this)
  by_cases hqn:q ≤ N
  ·have HSW:=Lib.hid (vw_sweep w.heap.size w1.heap.size L2 ao n c q wi HOI.out HLN.out HB1.out.size HZI.out (fun x hx=>by
    obtain ⟨y,hy,e1,_,_⟩:=zax HSI.out hx
    exact e1 ▸ (HF2.out y hy).1) (fun x hx=>by
    obtain ⟨y,hy,_,_,e3⟩:=zax HSI.out hx
    exact e3 ▸ HN2.out y hy) (fun x hx=>by
    obtain ⟨y,hy,_,e2,_⟩:=zax HSI.out hx
    exact e2 ▸ (HF2.out y hy).2) hops (by omega))
   go_wp2_with fail
   refine HSW.out.mono ?_
   rintro e w5 ⟨rfl,L3,ho3,hs3,he3,hb3⟩
   have HO3:=Lib.hid ho3
   have HS3:=Shut.mk (hs3.trans HSI.out)
   have HE3:=Lib.hid (show (∀ x ∈ L1,x.pr = []) → L3 = L1 from fun q=>by
    have h2:=HEI.out q
    subst h2
    exact he3 q)
   have HB3:=Lib.hid (HBI.out.trans hb3)
   have HZ3:=Lib.hid (Nat.le_trans HZI.out hb3.size)
   clear ho3 hs3 he3 hb3
   go_wp2_with fail
   exact ⟨⟨q + 64,L3,by go_num,by omega,by omega,HO3.out,HS3.out,HE3.out,HB3.out,HZ3.out⟩,by simp [intOf];omega⟩
  ·have HO4:=Shut.mk (show L2.map (·.op) = RW from (sans_ops HSI.out).trans HOP.out)
   have HE4:=Lib.hid (show (∀ x ∈ RW,x.preds = []) → ∀ x ∈ L2,x.dr = false from fun q x hx=>by
    have h1:=HE2.out q
    rw [HEI.out (fun y hy=>(h1 y hy).1)] at hx
    exact (h1 x hx).2)
   have HF4:=Lib.hid (show ∀ x ∈ L2,x.op ∈ RW from fun x hx=>HO4.out ▸ List.mem_map.2 ⟨x,hx,rfl⟩)
   clear HEI HSI HE2 HF2 HN2 HOP HL1
   go_wp2_with fail
   go_loopw [8,26] (fun tv i wr=>∃ (v:Value) (t:Nat),tv = v ∧ i = .int .i64 t ∧ t ≤ n ∧ OwnO wi.heap.size 49 v (zbv K (L2.take t)) wr ∧ Below wi.heap.size wi wr) (fun _ i _=>n - (intOf i).toNat)
   case atStart=>exact ⟨_,0,rfl,rfl,Nat.zero_le _,OwnO.nil _ _ _,Below.refl _ _⟩
   case round =>
    obtain ⟨wj,rfl⟩:∃ z,z = wr:=⟨_,rfl⟩
    obtain ⟨v,t,rfl,rfl,htn,ho,hb⟩:=hrel
    have HO:=Lib.hid ho
    have HBM:=Lib.hid hb
    have HB:=Lib.hid (HBI.out.trans (hb.mono HBI.out.size))
    have HQJ:=Lib.hid (HOI.out.below hb)
    clear ho hb
    by_cases hlt:t < n
    ·obtain ⟨x,hx⟩:∃ x,L2[t]? = some x:=⟨_,List.getElem?_eq_getElem (by rw [HLN.out];exact hlt)⟩
     have hxm:=List.mem_of_getElem? hx
     have HFX:=Lib.hid (HFR.out _ (HF4.out x hxm))
     have HKX:=Lib.hid (HKR.out _ (HF4.out x hxm))
     have hts:L2.take (t + 1) = L2.take t ++ [x]:=by
      rw [List.take_add_one,hx]
      rfl
     have hsn:=zkc K (L2.take t) x
     rw [← hts] at hsn
     have HSN:=Shut.mk hsn
     obtain ⟨g,rfl,hgl⟩:∃ g,ao = some ⟨g,0,none⟩ ∧ g < w1.heap.size:=by
      rcases HQJ.out.formB with ⟨_,h2⟩ | ⟨g,c',h2,_,_,h3,_⟩
      ·have:=HLN.out;rw [h2] at this;simp at this;omega
      ·injection h2 with h4 _ _
       exact ⟨g,h4,h3⟩
     obtain ⟨_,_,pa,pc,qa,qc,q1,q2,q3,q4,q5⟩:=HQJ.out.get hx
     have HQ1:=Lib.hid (show wj.rangeAt g (t * 41) (vpL x pa pc qa qc) by rw [Nat.mul_comm];exact q1)
     have HQ2:=Lib.hid q2
     have HNE:=Lib.hid (show ∀ a,pa = some a → x.op.preds ≠ [] → a.block < wi.heap.size from fun a ha h0=>Nat.lt_of_lt_of_le (q4 a ha h0).2 HZI.out)
     have HSL:=Lib.hid (show (Tryz.prog.info? 93).map (·.size) = some (vpL x pa pc qa qc).length by rw [z4o HFX.out.d.ref.1];exact Tryz.sizeVp)
     have HSV:=Lib.hid (show (Tryz.prog.info? 93).map (·.size) = some (vpV x pa pc qa qc).size by rw [vpV,List.size_toArray,z4o HFX.out.d.ref.1];exact Tryz.sizeVp)
     have HSZ:=Lib.hid (show vpZ.toArray.size = (vpV x pa pc qa qc).size by rw [vpV,List.size_toArray,List.size_toArray,z4o HFX.out.d.ref.1];rfl)
     have HSA:=Lib.hid (show (vpV x pa pc qa qc).all (·.oneCell') = true by rw [vpV,List.all_toArray];exact List.all_eq_true.2 (zcz x pa qa pc qc))
     have HSO:=Lib.hid (show (Tryz.prog.info? 49).map (·.size) = some (opL x.op pa pc).length by rw [z14 HFX.out.d.ref.1];exact Tryz.sizeO)
     clear hx hxm hts hsn hgl q1 q2 q3 q4 q5
     go_wp2_with (first
      | (refine wpList_load_mid rfl 93 _ rfl g (t * 41) rfl (vpL x pa pc qa qc) _ HQ1.out Tryz.underlying93 rfl HSL.out ?_)
      | (refine z0b rfl 93 rfl vpZ Tryz.zeroVp ?_)
      | (refine z00 rfl 93 _ _ rfl rfl wj.heap.size vpZ.toArray (vpV x pa pc qa qc) 93 rfl rfl (heap_alloc_new wj _) HSV.out HSZ.out HSA.out ?_))
     intro w7 hcs hbs
     have hb7:Below wj.heap.size wj w7:=But.toBelow ((Below.refl _ wj).alloc (Nat.le_refl _) _) hbs.out (Nat.le_refl _) (by rw [World.size_alloc];exact Nat.le_succ _)
     have HC7:=Lib.hid (show Cells wj.heap.size 93 (vpV x pa pc qa qc) w7 from hcs.out)
     have HB7:=Lib.hid (HBM.out.trans (hb7.mono HBM.out.size))
     have HO7:=Lib.hid (HO.out.below hb7)
     have HI7:=Lib.hid (HQ2.out.below hb7)
     obtain ⟨c8,c0,_,_,c40⟩:=vp_at HFX.out.d.ref.1 HC7.out
     have HR8:=Lib.hid c8
     have HCW:=Lib.hid (HKX.out pa pc w7 (HBI.out.trans (HB7.out.mono HBI.out.size)))
     obtain ⟨g10,hg10⟩:∃ g,wj.heap.size = g:=⟨_,rfl⟩
     rw [hg10] at HC7 HR8 c0 c40 ⊢
     obtain ⟨kx,hkx⟩:∃ z,K x.op = z:=⟨_,rfl⟩
     rw [hkx] at HCW
     obtain ⟨db,hdb⟩:∃ z,x.dr = z:=⟨_,rfl⟩
     rw [hdb] at c40
     obtain ⟨kd,hkd⟩:∃ z,x.op.d.kind = z:=⟨_,rfl⟩
     rw [hkd] at c0
     have HKE:=Shut.mk (show zfu K x = (decide (kd = 1) && (!db && kx)) by rw [zfu,hkx,hdb,hkd])
     clear hcs hbs hb7 c8 hg10 hkx hdb hkd
     by_cases h1:kd = 1
     ·subst h1
      cases db with
      | true =>
        have HNX:=Lib.hid (show zbv K (L2.take (t + 1)) = zbv K (L2.take t) from by rw [HSN.out,HKE.out];simp)
        go_wp2_with fail
        exact ⟨⟨_,t + 1,rfl,by go_num,by omega,by rw [HNX.out];exact HO7.out,HB7.out⟩,by simp [intOf];omega⟩
      | false =>
        cases kx with
        | false =>
          have HNX:=Lib.hid (show zbv K (L2.take (t + 1)) = zbv K (L2.take t) from by rw [HSN.out,HKE.out];simp)
          go_wp2_with (first
           | (refine z1k (by rfl) 49 _ rfl g10 0 rfl (opL x.op pa pc) _ HR8.out Tryz.underlying49 rfl HSO.out ?_)
           | (refine z18 (by rfl) HFN.out HNM.out HBD.out (.tmp 41) _ _ rfl #[] caps rfl [.agg (opV x.op pa pc)] rfl HCW.out ?_;rintro e w8 ⟨rfl,hb8⟩;refine ⟨_,rfl,?_⟩;have HB8:=Lib.hid hb8;clear hb8))
          exact ⟨⟨_,t + 1,rfl,by go_num,by omega,by rw [HNX.out];exact HO7.out.below HB8.out,HB7.out.trans (HB8.out.mono HB7.out.size)⟩,by simp [intOf];omega⟩
        | true =>
          have HNX:=Lib.hid (show zbv K (L2.take (t + 1)) = zbv K (L2.take t) ++ [x.op] from by rw [HSN.out,HKE.out];simp)
          have HRB:=Lib.hid (z3f (P:=Tryz.prog) 50 49 (opL x.op pa pc) _ _ _ Tryz.underlying50 z41 (z14 HFX.out.d.ref.1) (by decide) (by decide))
          obtain ⟨oa,oc,rfl⟩:=HO7.out.form
          have hol:=resN_len K (L2.take t)
          rw [List.length_take,HLN.out] at hol
          obtain ⟨ol,hole⟩:∃ z,(zbv K (L2.take t)).length = z:=⟨_,rfl⟩
          rw [hole] at hol HO HO7 ⊢
          have HOL:=Lib.hid (show (zbv K (L2.take t)).length ≤ 1000000 from by omega)
          clear hole hol
          go_wp2_with (first
           | (refine z1k (by rfl) 49 _ rfl g10 0 rfl (opL x.op pa pc) _ HR8.out Tryz.underlying49 rfl HSO.out ?_)
           | (refine z18 (by rfl) HFN.out HNM.out HBD.out (.tmp 41) _ _ rfl #[] caps rfl [.agg (opV x.op pa pc)] rfl HCW.out ?_;rintro e w8 ⟨rfl,hb8⟩;refine ⟨_,rfl,?_⟩;have HB8:=Lib.hid (HB7.out.trans (hb8.mono HB7.out.size));have HR9:=Lib.hid (z0c HR8.out hb8 (Cells.lt HC7.out));have HI8:=Lib.hid (HI7.out.below hb8);have HO8:=Lib.hid (HO7.out.below hb8);clear hb8)
           | (refine wpList_load_mid rfl 49 _ rfl g10 0 rfl (opL x.op pa pc) _ HR9.out Tryz.underlying49 rfl HSO.out ?_)
           | (refine z34 rfl 50 49 _ rfl (opL x.op pa pc) rfl HRB.out ?_))
          intro w9 hc9 hb9
          have HC9:=Lib.hid hc9.out.news
          have HB9:=Lib.hid (HB8.out.trans (hb9.out.mono HB8.out.size))
          have HI9:=Lib.hid (HI8.out.below hb9.out)
          have HO9:=Lib.hid (HO8.out.below hb9.out)
          have HNO:=Lib.hid (show ∀ a,pa = some a → x.op.preds ≠ [] → (Value.slice oa ol oc).ownBlock ≠ some a.block from fun a ha h0 e=>by
           have h1:=HNE.out a ha h0
           obtain ⟨C,hC,_⟩:=HO9.out
           have h2:=(World.ownsRow.lt hC _ e).1
           omega)
          obtain ⟨g9,hg9⟩:∃ z,w8.heap.size = z:=⟨_,rfl⟩
          rw [hg9] at HC9 ⊢
          clear hc9 hb9 hg9
          go_wp2_with (refine z9l rfl _ _ 50 49 rfl wi.heap.size 112 (.agg (opV z04 none 0)) rfl (by decide) Tryz.underlying50 z41 (.slice oa ol oc) _ x.op pa pc HFX.out.d.ref.1 HI9.out HNO.out ⟨g9,0,none⟩ 1 rfl HO9.out rfl HC9.out HOL.out HB9.out.size ?_)
          intro v10 w10 ho10 hb10 _
          have HO10:=Lib.hid ho10.out
          have HB10:=Lib.hid hb10.out
          clear ho10 hb10
          go_wp2_with fail
          exact ⟨⟨v10,t + 1,rfl,by go_num,by omega,by rw [HNX.out];exact HO10.out,HB9.out.trans HB10.out⟩,by simp [intOf];omega⟩
     ·have g1:(kd == 1) = false:=by simpa using h1
      have HNX:=Lib.hid (show zbv K (L2.take (t + 1)) = zbv K (L2.take t) from by rw [HSN.out,HKE.out,decide_eq_false h1];simp)
      go_wp2_with fail
      exact ⟨⟨_,t + 1,rfl,by go_num,by omega,by rw [HNX.out];exact HO7.out,HB7.out⟩,by simp [intOf];omega⟩
    ·obtain rfl:t = n:=by omega
     have HE:=Lib.hid (show L2.take t = L2 from List.take_of_length_le (by rw [HLN.out];exact Nat.le_refl _))
     go_wp2_with fail
     go_ret
     exact ⟨_,_,rfl,(HE.out ▸ HO.out).mono HBI.out.size,by rw [← HO4.out];exact resN_sub K L2,fun q=>by rw [← HO4.out];exact resN_all K L2 (HE4.out (HPE.out q)),HB.out⟩
end Go.Proofs.YtjomgkiphecljaaGreatDoor
namespace Go.Proofs.YtjomgkiphecljaaGreatDoor
open Go.Shelf
def Tryz.laysSort_ren:Go.Shelf.Ren:=⟨fun | 190=>49 | 125=>73 | 258=>72 | 128=>103 | 129=>104 | 302=>94 | 303=>95 | 304=>96 | 305=>97 | 306=>98 | 307=>99 | 308=>100 | 309=>101 | 310=>102 | 333=>129 | 329=>130 | 330=>131 | 334=>132 | 335=>133 | 336=>134 | 344=>145 | n=>n,fun | 31=>28 | 9=>9 | 3=>3 | 46=>75 | 0=>0 | 51=>151 | 53=>121 | 4=>4 | 183=>143 | 182=>142 | 131=>148 | 5=>5 | 218=>188 | 222=>192 | 228=>204 | 229=>205 | n=>n,fun | n=>n⟩
theorem Tryz.laysSort:Go.Proofs.Lays.n190 Tryz.prog Tryz.laysSort_ren:={
 mixed:=by kernel_rfl
 f125:=Tryz.func73.trans (congrArg some (by kernel_rfl))
 f128:=Tryz.func103.trans (congrArg some (by kernel_rfl))
 f129:=Tryz.func104.trans (congrArg some (by kernel_rfl))
 f190:=Tryz.func49.trans (congrArg some (by kernel_rfl))
 f258:=Tryz.func72.trans (congrArg some (by kernel_rfl))
 f302:=Tryz.func94.trans (congrArg some (by kernel_rfl))
 f303:=Tryz.func95.trans (congrArg some (by kernel_rfl))
 f304:=Tryz.func96.trans (congrArg some (by kernel_rfl))
 f305:=Tryz.func97.trans (congrArg some (by kernel_rfl))
 f306:=Tryz.func98.trans (congrArg some (by kernel_rfl))
 f307:=Tryz.func99.trans (congrArg some (by kernel_rfl))
 f308:=Tryz.func100.trans (congrArg some (by kernel_rfl))
 f309:=Tryz.func101.trans (congrArg some (by kernel_rfl))
 f310:=Tryz.func102.trans (congrArg some (by kernel_rfl))
 f329:=Tryz.func130.trans (congrArg some (by kernel_rfl))
 f330:=Tryz.func131.trans (congrArg some (by kernel_rfl))
 f333:=Tryz.func129.trans (congrArg some (by kernel_rfl))
 f334:=Tryz.func132.trans (congrArg some (by kernel_rfl))
 f335:=Tryz.func133.trans (congrArg some (by kernel_rfl))
 f336:=Tryz.func134.trans (congrArg some (by kernel_rfl))
 f344:=Tryz.func145.trans (congrArg some (by kernel_rfl))
 t0:=Tryz.underlying0
 a0:=Tryz.isAgg0
 z0:=Tryz.sizeOf0
 v0:=Tryz.zeroValue0
 t3:=Tryz.underlying3
 a3:=Tryz.isAgg3
 z3:=Tryz.sizeOf3
 v3:=Tryz.zeroValue3
 t4:=Tryz.underlying4
 a4:=Tryz.isAgg4
 z4:=Tryz.sizeOf4
 v4:=Tryz.zeroValue4
 t5:=Tryz.underlying5
 a5:=Tryz.isAgg5
 z5:=Tryz.sizeOf5
 v5:=Tryz.zeroValue5
 t9:=Tryz.underlying9
 a9:=Tryz.isAgg9
 z9:=Tryz.sizeOf9
 v9:=Tryz.zeroValue9
 t31:=Tryz.underlying28
 a31:=Tryz.isAgg28
 z31:=Tryz.sizeOf28
 v31:=Tryz.zeroValue28
 t46:=Tryz.underlying75
 a46:=Tryz.isAgg75
 z46:=Tryz.sizeOf75
 v46:=Tryz.zeroValue75
 t51:=Tryz.underlying151
 a51:=Tryz.isAgg151
 z51:=Tryz.sizeOf151
 v51:=Tryz.zeroValue151
 t53:=Tryz.underlying121
 a53:=Tryz.isAgg121
 z53:=Tryz.sizeOf121
 v53:=Tryz.zeroValue121
 t131:=Tryz.underlying148
 a131:=Tryz.isAgg148
 z131:=Tryz.sizeOf148
 v131:=Tryz.zeroValue148
 t182:=Tryz.underlying142
 a182:=Tryz.isAgg142
 z182:=Tryz.sizeOf142
 v182:=Tryz.zeroValue142
 t183:=Tryz.underlying143
 a183:=Tryz.isAgg143
 z183:=Tryz.sizeOf143
 v183:=Tryz.zeroValue143
 t218:=Tryz.underlying188
 a218:=Tryz.isAgg188
 z218:=Tryz.sizeOf188
 v218:=Tryz.zeroValue188
 t222:=Tryz.underlying192
 a222:=Tryz.isAgg192
 z222:=Tryz.sizeOf192
 v222:=Tryz.zeroValue192
 t228:=Tryz.underlying204
 a228:=Tryz.isAgg204
 z228:=Tryz.sizeOf204
 v228:=Tryz.zeroValue204
 t229:=Tryz.underlying205
 a229:=Tryz.isAgg205
 z229:=Tryz.sizeOf205
 v229:=Tryz.zeroValue205 }
def Tryz.laysCompact_ren:Go.Shelf.Ren:=⟨fun | 194=>50 | n=>n,fun | 31=>28 | 9=>9 | 3=>3 | 4=>4 | 0=>0 | n=>n,fun | n=>n⟩
theorem Tryz.laysCompact:Go.Proofs.Lays.n194 Tryz.prog Tryz.laysCompact_ren:={
 mixed:=by kernel_rfl
 f194:=Tryz.func50.trans (congrArg some (by kernel_rfl))
 t0:=Tryz.underlying0
 a0:=Tryz.isAgg0
 z0:=Tryz.sizeOf0
 v0:=Tryz.zeroValue0
 t3:=Tryz.underlying3
 a3:=Tryz.isAgg3
 z3:=Tryz.sizeOf3
 v3:=Tryz.zeroValue3
 t4:=Tryz.underlying4
 a4:=Tryz.isAgg4
 z4:=Tryz.sizeOf4
 v4:=Tryz.zeroValue4
 t9:=Tryz.underlying9
 a9:=Tryz.isAgg9
 z9:=Tryz.sizeOf9
 v9:=Tryz.zeroValue9
 t31:=Tryz.underlying28
 a31:=Tryz.isAgg28
 z31:=Tryz.sizeOf28
 v31:=Tryz.zeroValue28 }
end Go.Proofs.YtjomgkiphecljaaGreatDoor
namespace Go.Proofs.YtjomgkiphecljaaGreatDoor
open Go.RowKit Go.BigFrame
theorem Tryz.sizeK:(Tryz.prog.info? 80).map (·.size) = some 6:=by kernel_rfl
theorem Tryz.zeroK:(Tryz.prog.info? 80).bind (·.zero) = some (.agg [Value.bool false,.bool false,.bool false,.bool false,.bool false,.bool false].toArray):=by kernel_rfl
theorem z5c (L:List Int):(z10 L).all (·.oneCell') = true:=by simp [z10,Value.oneCell']
theorem z89 (ao:Option Addr) (L:List Int) (m c:Nat) (w:World) (h:IntsIn ao L w) (hm:L.length = m) (hl:m ≤ 140737488351232) :
 Calls Tryz.prog 43 #[.slice ao m c] w fun e w'=>e = .returned (.agg (z10 L)) ∧ Below w.heap.size w w':=by
 have HM:=Shut.mk hm
 have H:=Lib.hid h
 have HS:=Lib.hid (show (Tryz.prog.info? 80).map (·.size) = some (z10 L).size from Tryz.sizeK)
 clear hm h
 have b1:Below w.heap.size w (w.alloc (.cells (z10 []) 80)):=(Below.refl _ _).alloc (Nat.le_refl _) _
 have x1:Cells w.heap.size 80 (z10 []) (w.alloc (.cells (z10 []) 80)):=heap_alloc_new w _
 have s1:(w.alloc (.cells (z10 []) 80)).heap.size = w.heap.size + 1:=World.size_alloc _ _
 have b2:Below (w.alloc (.cells (z10 []) 80)).heap.size (w.alloc (.cells (z10 []) 80)) ((w.alloc (.cells (z10 []) 80)).alloc (.cells (z10 []) 80)):=(Below.refl _ _).alloc (Nat.le_refl _) _
 have x2:Cells (w.alloc (.cells (z10 []) 80)).heap.size 80 (z10 []) ((w.alloc (.cells (z10 []) 80)).alloc (.cells (z10 []) 80)):=heap_alloc_new _ _
 rw [s1] at x2
 have HX1:=Lib.hid (x1.below b2)
 have HX2:=Lib.hid x2
 have HB:=Lib.hid (b1.trans (b2.mono b1.size))
 have hk0:=zjn
 rw [hk0] at HX1 HX2 HB
 clear b1 x1 s1 b2 x2
 go_enter Tryz.func43,Tryz.ntmps43
 go_wp2_with fail
 obtain ⟨w2,hw2⟩:∃ x,x = (w.alloc (.cells #[.bool false,.bool false,.bool false,.bool false,.bool false,.bool false] 80)).alloc (.cells #[.bool false,.bool false,.bool false,.bool false,.bool false,.bool false] 80):=⟨_,rfl⟩
 rw [← hw2] at HX1 HX2 HB ⊢
 rw [← hk0] at HX1 HX2
 clear hw2 hk0
 go_loopw [8] (fun i wr=>∃ k:Nat,i = .int .i64 k ∧ k ≤ m ∧ Cells w.heap.size 80 (z10 []) wr ∧ Cells (w.heap.size + 1) 80 (z10 (L.take k)) wr ∧ Below w.heap.size w wr) (fun i _=>m - (intOf i).toNat)
 case atStart=>exact ⟨0,rfl,Nat.zero_le _,HX1.out,HX2.out,HB.out⟩
 case round =>
  obtain ⟨wi,rfl⟩:∃ z,z = wr:=⟨_,rfl⟩
  obtain ⟨k,rfl,hk,h1,h2,hb⟩:=hrel
  have H1:=Lib.hid h1
  have H2:=Lib.hid h2
  have HB2:=Lib.hid hb
  clear h1 h2 hb HX1 HX2 HB
  by_cases hlt:k < m
  ·obtain ⟨b,o,rfl,hbl,hc⟩:=zkb (H.out.below HB2.out) (by rw [HM.out];omega)
   have c1:=hc k (by rw [HM.out];exact hlt)
   have hts:=zjo (L:=L) (k:=k) (by rw [HM.out];exact hlt)
   obtain ⟨z,hz⟩:∃ z,L.getD k 0 = z:=⟨_,rfl⟩
   rw [hz] at c1 hts
   clear hc hbl hz
   by_cases hin:1 ≤ z ∧ z ≤ 5
   ·have HTS:=Lib.hid (show (z10 (L.take k)).setIfInBounds z.toNat (.bool true) = z10 (L.take (k + 1)) by rw [hts];exact zld hin)
    obtain ⟨n,rfl⟩:∃ n:Nat,z = (n:Int):=⟨z.toNat,by omega⟩
    obtain ⟨hz1,hz5⟩:=hin
    have cs:wi.cell? ⟨w.heap.size + 1,n,none⟩ = some (.bool (decide ((n:Int) ∈ L.take k))):=by
     rw [H2.out.at]
     exact z8o ⟨hz1,hz5⟩
    have cf:=H2.out.frozen n
    have hb7:But (w.heap.size + 1) wi (wi.setCell ⟨w.heap.size + 1,n,none⟩ (.bool true)):=(But.refl _ wi).setCell n _
    have H17:=Lib.hid (show Cells w.heap.size 80 (z10 []) (wi.setCell ⟨w.heap.size + 1,n,none⟩ (.bool true)) from (hb7.block _ H1.out.lt (by omega)).trans H1.out)
    have H27:=Lib.hid (HTS.out ▸ H2.out.set n (.bool true))
    have HB7:=Lib.hid (But.toBelow HB2.out hb7 (Nat.le_succ _) HB2.out.size)
    have hn6:(n:Int) < 6:=by omega
    have g1:decide ((1:Int) ≤ (n:Int)) = true:=decide_eq_true hz1
    have g2:decide ((n:Int) ≤ (5:Int)) = true:=decide_eq_true hz5
    clear hb7 hts
    go_wp2_with fail
    exact ⟨⟨k + 1,by go_num,by omega,H17.out,H27.out,HB7.out⟩,by simp [intOf];omega⟩
   ·have HTS:=Lib.hid (show z10 (L.take k) = z10 (L.take (k + 1)) by rw [hts];exact (zj3 hin).symm)
    clear hts
    by_cases h1:1 ≤ z
    ·have g1:decide ((1:Int) ≤ z) = true:=decide_eq_true h1
     have g2:decide (z ≤ (5:Int)) = false:=decide_eq_false (fun e=>hin ⟨h1,e⟩)
     clear hin h1
     go_wp2_with fail
     exact ⟨⟨k + 1,by go_num,by omega,H1.out,HTS.out ▸ H2.out,HB2.out⟩,by simp [intOf];omega⟩
    ·have g1:decide ((1:Int) ≤ z) = false:=decide_eq_false h1
     clear hin h1
     go_wp2_with fail
     exact ⟨⟨k + 1,by go_num,by omega,H1.out,HTS.out ▸ H2.out,HB2.out⟩,by simp [intOf];omega⟩
  ·obtain rfl:k = m:=by omega
   have HE:=Lib.hid (show L.take k = L from List.take_of_length_le (by rw [HM.out];exact Nat.le_refl _))
   have H2L:=Lib.hid (HE.out ▸ H2.out)
   have HSV:=Lib.hid (show (z10 []).size = (z10 L).size from rfl)
   go_wp2_with (first
    | (refine z01 rfl 80 _ rfl (w.heap.size + 1) (z10 L) 80 _ rfl H2L.out Tryz.underlying80 rfl HS.out ?_)
    | (refine z00 rfl 80 _ _ rfl rfl w.heap.size (z10 []) (z10 L) 80 rfl rfl H1.out HS.out HSV.out (z5c L) ?_))
   intro w6 hc6 hb6
   have HC6:=Lib.hid hc6.out
   have HB6:=Lib.hid (But.toBelow HB2.out hb6.out (Nat.le_refl _) HB2.out.size)
   clear hc6 hb6
   go_wp2_with fail
   refine bodyPost_ret (results_cell_row rfl _ _ w.heap.size 80 _ (0,0) _ rfl HC6.out Tryz.underlying80 rfl HS.out) rfl ?_
   exact ⟨rfl,HB6.out⟩
theorem zee (x:OpN) (pa:Option Addr) (pc gs:Nat) (L:List Int) (w:World) (hx:x.d.ref.length = 32) (hk:1 ≤ x.d.kind ∧ x.d.kind ≤ 5) (hset:Cells gs 80 (z10 L) w) :
 Calls Tryz.prog 48 (#[] ++ [Value.agg (opV x pa pc)].toArray ++ #[.pointer (some ⟨gs,0,none⟩)]) w fun e w'=>e = .returned (.bool (decide (x.d.kind ∈ L))) ∧ Below w.heap.size w w':=by
 show Calls Tryz.prog 48 #[.agg (opV x pa pc),.pointer (some ⟨gs,0,none⟩)] w _
 have b1:Below w.heap.size w (w.alloc (.cells (opV x pa pc) 49)):=(Below.refl _ _).alloc (Nat.le_refl _) _
 have x1:Cells w.heap.size 49 (opV x pa pc) (w.alloc (.cells (opV x pa pc) 49)):=heap_alloc_new w _
 have c0:=(z1l (z0d hx x1).1).1
 have HB:=Lib.hid b1
 have hs:=hset.below b1
 have cs:(w.alloc (.cells (opV x pa pc) 49)).cell? ⟨gs,x.d.kind.toNat,none⟩ = some (.bool (decide (x.d.kind ∈ L))):=by
  rw [hs.at]
  exact z8o hk
 obtain ⟨n,hn⟩:∃ n:Nat,x.d.kind = (n:Int):=⟨x.d.kind.toNat,by omega⟩
 rw [hn,Int.toNat_natCast] at cs
 rw [hn] at c0
 have HR:=Shut.mk (show decide (x.d.kind ∈ L) = decide ((n:Int) ∈ L) by rw [hn])
 have hn6:(n:Int) < 6:=by omega
 obtain ⟨R,hR⟩:∃ R,decide ((n:Int) ∈ L) = R:=⟨_,rfl⟩
 obtain ⟨R0,hR0⟩:∃ R,decide (x.d.kind ∈ L) = R:=⟨_,rfl⟩
 rw [hR] at cs HR
 rw [hR0] at HR ⊢
 clear b1 x1 hs hset hk hn hR hR0 hx
 go_enter Tryz.func48,Tryz.ntmps48
 go_wp2_with fail
 go_ret
 exact ⟨by rw [HR.out];rfl,HB.out⟩
theorem zjk (x:OpN) (pa:Option Addr) (pc gk gs:Nat) (key:List UInt8) (L:List Int) (w:World) (hx:x.d.ref.length = 32) (hk:1 ≤ x.d.kind ∧ x.d.kind ≤ 5) (hkey:w.cell? ⟨gk,0,none⟩ = some (.string ⟨key.toArray⟩)) (hset:Cells gs 80 (z10 L) w) :
 Calls Tryz.prog 46 (#[] ++ [Value.agg (opV x pa pc)].toArray ++ #[.pointer (some ⟨gk,0,none⟩),.pointer (some ⟨gs,0,none⟩)]) w fun e w'=>e = .returned (.bool (decide (x.d.key = key ∧ x.d.kind ∈ L))) ∧ Below w.heap.size w w':=by
 show Calls Tryz.prog 46 #[.agg (opV x pa pc),.pointer (some ⟨gk,0,none⟩),.pointer (some ⟨gs,0,none⟩)] w _
 have b1:Below w.heap.size w (w.alloc (.cells (opV x pa pc) 49)):=(Below.refl _ _).alloc (Nat.le_refl _) _
 have x1:Cells w.heap.size 49 (opV x pa pc) (w.alloc (.cells (opV x pa pc) 49)):=heap_alloc_new w _
 have c0:=(z1l (z0d hx x1).1).1
 have c1:=(z1l (z0d hx x1).1).2.1
 have ck:(w.alloc (.cells (opV x pa pc) 49)).cell? ⟨gk,0,none⟩ = some (.string ⟨key.toArray⟩):=(b1.cell (z48 hkey)).trans hkey
 have HB:=Lib.hid b1
 have hs:=hset.below b1
 have cs:(w.alloc (.cells (opV x pa pc) 49)).cell? ⟨gs,x.d.kind.toNat,none⟩ = some (.bool (decide (x.d.kind ∈ L))):=by
  rw [hs.at]
  exact z8o hk
 obtain ⟨n,hn⟩:∃ n:Nat,x.d.kind = (n:Int):=⟨x.d.kind.toNat,by omega⟩
 rw [hn,Int.toNat_natCast] at cs
 rw [hn] at c0
 have HR:=Shut.mk (show decide (x.d.key = key ∧ x.d.kind ∈ L) = (decide (x.d.key = key) && decide ((n:Int) ∈ L)) by rw [hn];simp)
 have hn6:(n:Int) < 6:=by omega
 obtain ⟨R,hR⟩:∃ R,decide ((n:Int) ∈ L) = R:=⟨_,rfl⟩
 obtain ⟨R0,hR0⟩:∃ R,decide (x.d.key = key ∧ x.d.kind ∈ L) = R:=⟨_,rfl⟩
 rw [hR] at cs HR
 rw [hR0] at HR ⊢
 obtain ⟨k0,hk0⟩:∃ k0,x.d.key = k0:=⟨_,rfl⟩
 rw [hk0] at c1 HR
 clear b1 x1 hs hset hk hn hR hR0 hx hk0 hkey
 by_cases he:k0 = key
 ·subst he
  have HR2:=Shut.mk (show R0 = R by rw [HR.out];simp)
  clear HR
  go_enter Tryz.func46,Tryz.ntmps46
  go_wp2_with fail
  go_ret
  exact ⟨by rw [HR2.out];rfl,HB.out⟩
 ·have HR2:=Shut.mk (show R0 = false by rw [HR.out,decide_eq_false he];rfl)
  clear HR
  go_enter Tryz.func46,Tryz.ntmps46
  go_wp2_with fail
  go_ret
  exact ⟨by rw [HR2.out];rfl,HB.out⟩
open Go.Sort
theorem zl6 (a b:List UInt8):Op.bytesLess a b = true ↔ a < b:=by rw [Go.Proofs.bytesLess_eq,decide_eq_true_iff]
theorem zhl {a b:List UInt8} (h:a ≤ b):a = b ∨ Op.bytesLess a b = true:=by
 by_cases e:a = b
 ·exact .inl e
 ·refine .inr ((z7h e).resolve_right fun h2=>?_)
  exact List.not_lt.2 h ((zl6 b a).1 h2)
theorem zm5 (L:List (List UInt8)):(L.mergeSort fun x y=>decide (x ≤ y)).Pairwise fun a b=>a ≤ b:=by
 have:=List.pairwise_mergeSort (le:=fun x y:List UInt8=>decide (x ≤ y)) (fun a b c h1 h2=>by
  simp only [decide_eq_true_eq] at h1 h2 ⊢
  exact List.le_trans h1 h2) (fun a b=>by
  simp only [Bool.or_eq_true,decide_eq_true_eq]
  exact List.le_total a b) L
 exact this.imp fun h=>by simpa using h
theorem zaj {d:Array (List UInt8)} (hs:∀ i j,i < j → j < d.size → d[i]! ≤ d[j]!):∀ m,m ≤ d.size → Ups (Lib.compactUpTo d m) ∧ (∀ x,x ∈ Lib.compactUpTo d m ↔ ∃ i,i < m ∧ d[i]! = x)
 | 0,_=>⟨List.Pairwise.nil,fun x=>by simp [Lib.compactUpTo]⟩
 | m + 1, hm => by
   obtain ⟨h1,h2⟩:=zaj hs m (by omega)
   rw [Lib.compactUpTo_succ]
   by_cases hk:Lib.keeps d m = true
   ·rw [if_pos hk]
    refine ⟨List.pairwise_append.2 ⟨h1,List.pairwise_singleton _ _,fun x hx y hy=>?_⟩,fun x=>?_⟩
    ·obtain rfl:=List.mem_singleton.1 hy
     obtain ⟨i,hi,rfl⟩:=(h2 x).1 hx
     have hne:d[m]! ≠ d[m - 1]!:=by
      have:=of_decide_eq_true hk
      rcases this with h | h
      ·omega
      ·exact h
     have hlast:Op.bytesLess d[m - 1]! d[m]! = true:=(zhl (hs (m - 1) m (by omega) (by omega))).resolve_left fun e=>hne e.symm
     by_cases he:i = m - 1
     ·rw [he];exact hlast
     ·rcases zhl (hs i (m - 1) (by omega) (by omega)) with e | e
      ·rw [e];exact hlast
      ·exact z7a e hlast
    ·rw [List.mem_append,List.mem_singleton,h2]
     constructor
     ·rintro (⟨i,hi,rfl⟩ | rfl)
      ·exact ⟨i,by omega,rfl⟩
      ·exact ⟨m,by omega,rfl⟩
     ·rintro ⟨i,hi,rfl⟩
      by_cases he:i = m
      ·rw [he];exact .inr rfl
      ·exact .inl ⟨i,by omega,rfl⟩
   ·rw [if_neg hk,List.append_nil]
    have hk2:Lib.keeps d m = false:=by simpa using hk
    have hk':¬ (m = 0 ∨ d[m]! ≠ d[m - 1]!):=of_decide_eq_false hk2
    have hm0:m ≠ 0:=fun e=>hk' (.inl e)
    have he:d[m]! = d[m - 1]!:=Classical.not_not.1 fun e=>hk' (.inr e)
    refine ⟨h1,fun x=>?_⟩
    rw [h2]
    constructor
    ·rintro ⟨i,hi,rfl⟩
     exact ⟨i,by omega,rfl⟩
    ·rintro ⟨i,hi,rfl⟩
     by_cases hx:i = m
     ·rw [hx,he];exact ⟨m - 1,by omega,rfl⟩
     ·exact ⟨i,by omega,rfl⟩
theorem z9d (L:List (List UInt8)):Lib.compact (L.mergeSort fun x y=>decide (x ≤ y)) = z1a L:=by
 have hs:=zm5 L
 have hp:=List.mergeSort_perm L fun x y=>decide (x ≤ y)
 obtain ⟨Z,hZ⟩:∃ Z,(L.mergeSort fun x y=>decide (x ≤ y)) = Z:=⟨_,rfl⟩
 rw [hZ] at hs hp ⊢
 have hat:∀ i,i < Z.length → Z.toArray[i]! = Z.getD i []:=fun i hi=>by
  rw [getElem!_pos Z.toArray i (by rw [List.size_toArray];exact hi),List.getD_eq_getElem?_getD,List.getElem?_eq_getElem hi]
  simp
 obtain ⟨h1,h2⟩:=zaj (d:=Z.toArray) (fun i j hij hj=>by
  rw [List.size_toArray] at hj
  rw [hat i (by omega),hat j hj,List.getD_eq_getElem?_getD,List.getD_eq_getElem?_getD,List.getElem?_eq_getElem (show i < Z.length by omega),List.getElem?_eq_getElem hj]
  exact List.pairwise_iff_getElem.1 hs i j (by omega) hj hij) Z.length (by rw [List.size_toArray];exact Nat.le_refl _)
 refine zc6 h1 fun x=>?_
 rw [← hp.mem_iff,show (x ∈ Lib.compact Z ↔ _) from h2 x]
 constructor
 ·rintro ⟨i,hi,rfl⟩
  rw [hat i hi,List.getD_eq_getElem?_getD,List.getElem?_eq_getElem hi]
  exact List.getElem_mem hi
 ·intro hx
  obtain ⟨i,hi,rfl⟩:=List.getElem_of_mem hx
  exact ⟨i,hi,by rw [hat i hi,List.getD_eq_getElem?_getD,List.getElem?_eq_getElem hi];rfl⟩
theorem OwnS.formB {B:Nat} {v:Value} {L:List (List UInt8)} {w:World} (h:OwnS B v L w):v = .slice none 0 0 ∧ L = [] ∨ ∃ g cap,v = .slice (some ⟨g,0,none⟩) L.length cap ∧ L.length ≤ cap ∧ B ≤ g ∧ g < w.heap.size:=by
 rcases h.2 with ⟨h1,h2⟩ | ⟨g,cap,_,h1,hB,hg,hc,_⟩
 ·exact .inl ⟨h1,List.length_eq_zero_iff.1 h2⟩
 ·exact .inr ⟨g,cap,h1,hc,hB,lt_of_block hg⟩
theorem zhv (L:List (List UInt8)):∀ u ∈ z5x L,u.oneCell' = true:=fun u hu=>by
 obtain ⟨s,_,rfl⟩:=List.mem_map.1 hu
 rfl
theorem Tryz.infoStr:(Tryz.prog.info? 9).map (fun i=>(i.zero,i.size,i.bytes)) = some (some (.string ⟨#[]⟩),1,16):=by kernel_rfl
theorem z2t {w:World} {ops:Array Oper} {rest:List Oper} {o:Oper} {a:Act} {Q:Exit → Act → World → Prop} (hgd:o.guard = none) (s x:Operand)
 (ho:o.op = .call { callee:=.builtin .append,args:=#[s,x],argTypes:=#[28,28] })
 (B:Nat) (v:Value) (L:List (List UInt8)) (y:List UInt8) (ad:Addr) (c:Nat) (hs:a.eval s = v) (hown:OwnS B v L w) (hx:a.eval x = .slice (some ad) 1 c) (hnew:w.cell? (ad.add 0) = some (.string ⟨y.toArray⟩)) (h63:L.length ≤ 1000000) (hB:B ≤ w.heap.size)
 (h:∀ v' w',Hid (OwnS B v' (L ++ [y]) w') → Hid (Below B w w') → Hid (w.grownBy w' v.ownBlock) → wpList Tryz.prog ops Q rest (a.put o.dst v') w'):wpList Tryz.prog ops Q (o :: rest) a w:=by
 obtain ⟨i,hi,hz0,hz1,hz2⟩:=info_parts Tryz.infoStr
 refine wpList_append_own_at w hgd s x _ ho B 9 i _ 1 16 Tryz.underlying28 hi hz0 hz1 hz2 rfl (by decide) v L.length (z5x L) hs hown ad 1 c [encStr y] hx rfl ?_ (zhv [y]) (by unfold maxLen;omega)
  (Nat.le_trans (Nat.mul_le_mul (show L.length + 1 ≤ 1000001 by omega) (Nat.le_refl 16)) (by decide)) hB ?_
 ·intro j u hj
  obtain rfl:j = 0:=by
   have:=(List.getElem?_eq_some_iff.1 hj).1
   simpa using this
  cases hj
  exact hnew
 ·intro v' w' q1 q2 _ _
  refine h v' w' (Lib.hid ?_) (Lib.hid ((Below.refl B w).grown q2 hB (fun k hk=>(World.ownsRow.lt hown k hk).1))) (Lib.hid q2)
  show w'.ownsRow B _ 1 v' (L ++ [y]).length (z5x (L ++ [y]))
  rw [List.length_append,zl3]
  exact q1
open Go.Shelf
theorem zf2 {B g n c:Nat} {L:List (List UInt8)} {w:World} (h:OwnS B (.slice (some ⟨g,0,none⟩) n c) L w) (hn:L.length = n) (hl:n ≤ 100000) :
 Calls Tryz.prog 49 #[.slice (some ⟨g,0,none⟩) n c] w fun e w'=>e = .returned (.tuple #[]) ∧ OwnS B (.slice (some ⟨g,0,none⟩) n c) (L.mergeSort fun x y=>decide (x ≤ y)) w' ∧ w.grownBy w' (some g):=by
 subst hn
 obtain ⟨g',cap,hv,hbg,hgl,hncap,hcm,hlen,hH⟩:=Lib.holds_of_ownsRow (enc:=encStr) (zs:=L) h (fun e=>by cases e)
 injection hv with h1 _ h3
 injection h1 with h1
 injection h1 with h1 _ _
 subst h1 h3
 have hs:=calls_of_every_depth (P:=Tryz.prog) fun D=>AnyS.slices_Sort_string_alone Tryz.laysSort D g 0 c L w hH hgl (by omega)
 refine Calls.mono (f:=49) hs ?_
 rintro e w' ⟨rfl,q,os,rfl⟩
 have hl2:(L.mergeSort fun x y=>decide (x ≤ y)).length = L.length:=List.length_mergeSort L
 rcases h.2 with ⟨h0,_⟩ | ⟨g',cap',cur,hv,hbase,hb,h1,h2,h3,h4⟩
 ·cases h0
 cases hv
 have hs:=ownsRow_sorted (n:=q) (os:=os) hl2 hbase hb h1 h2 h3
 refine ⟨rfl,?_,grownBy_sorted _⟩
 unfold OwnS
 rw [hl2]
 exact hs
theorem z96 {B g n c:Nat} {L:List (List UInt8)} {w:World} (h:OwnS B (.slice (some ⟨g,0,none⟩) n c) L w) (hn:L.length = n) (hl:n ≤ 100000) :
 Calls Tryz.prog 50 #[.slice (some ⟨g,0,none⟩) n c] w fun e w'=>e = .returned (.slice (some ⟨g,0,none⟩) (Lib.compact L).length c) ∧ OwnS B (.slice (some ⟨g,0,none⟩) (Lib.compact L).length c) (Lib.compact L) w' ∧ (∀ w0,Below B w0 w → Below B w0 w'):=by
 subst hn
 obtain ⟨g',cap,hv,hbg,hgl,hncap,hcm,hlen,hH⟩:=Lib.holds_of_ownsRow (enc:=encStr) (zs:=L) h (fun e=>by cases e)
 injection hv with h1 _ h3
 injection h1 with h1
 injection h1 with h1 _ _
 subst h1 h3
 have hs:=Any.slices_Compact_string Tryz.laysCompact g 0 c L w hH (by omega) hncap
 refine Calls.mono (f:=50) hs ?_
 rintro e w' ⟨rfl,q,rfl⟩
 have hle:=Lib.compact_length_le L
 have hc:=Lib.ownsRow_putRow (q:=q) (k:=(Lib.compact L).length) (ys:=Lib.compact L ++ List.replicate (L.length - (Lib.compact L).length) []) h (by simp;omega) (by omega)
 rw [List.take_left] at hc
 exact ⟨rfl,hc,fun w0 hb=>Lib.below_putRow hb hbg⟩
end Go.Proofs.YtjomgkiphecljaaGreatDoor
namespace Go.Proofs.YtjomgkiphecljaaGreatDoor
open Go.RowKit
def zbj (key:List UInt8) (o:OpN):Prop:=o.d.kind = 3 ∧ o.d.key = key
instance (key:List UInt8) (o:OpN):Decidable (zbj key o):=inferInstanceAs (Decidable (_ ∧ _))
def zf1 (key:List UInt8) (b:Option OpN) (o:OpN):Option OpN :=
 if zbj key o then
  match b with
  | none=>some o
  | some x=>if z7l x o = true then some o else some x
 else b
theorem zek {key:List UInt8} {b:Option OpN} {o:OpN} (h:zbj key o):zf1 key b o = match b with
 | none=>some o
 | some x=>if z7l x o = true then some o else some x:=if_pos h
theorem zfd {key:List UInt8} {b:Option OpN} {o:OpN} (h:¬ zbj key o):zf1 key b o = b:=if_neg h
def z5p (key:List UInt8) (L:List OpN):Option OpN:=L.foldl (zf1 key) none
theorem zce (key:List UInt8) (L:List OpN) (o:OpN):z5p key (L ++ [o]) = zf1 key (z5p key L) o:=by
 rw [z5p,List.foldl_append];rfl
structure BestAt (key:List UInt8) (T:List OpN) (b:Option OpN):Prop where
 none:b = none → ∀ o ∈ T,¬ zbj key o
 some:∀ x,b = some x → x ∈ T ∧ zbj key x ∧ ∀ o ∈ T,zbj key o → o = x ∨ z7l o x = true
theorem zcp (key:List UInt8):∀ (n:Nat) (T:List OpN),T.length = n → (T.map z02).Nodup → (∀ o ∈ T,(z02 o).length = 32) → BestAt key T (z5p key T)
 | 0, T, h, _, _ => by
   obtain rfl:=List.length_eq_zero_iff.1 h
   exact ⟨(fun _ o ho=>by cases ho),fun x hx=>by cases hx⟩
 | n + 1, T, h, hd, hl => by
   obtain ⟨S,o,rfl⟩:∃ S o,T = S ++ [o]:=by
    rcases List.eq_nil_or_concat T with rfl | ⟨S,o,e⟩
    ·cases h
    ·exact ⟨S,o,by rw [e,List.concat_eq_append]⟩
   rw [List.length_append,List.length_singleton] at h
   rw [List.map_append] at hd
   obtain ⟨hd1,_,hd2⟩:=List.nodup_append.1 hd
   have ih:=zcp key n S (by omega) hd1 fun x hx=>hl x (List.mem_append_left _ hx)
   have hne:∀ x ∈ S,z02 x ≠ z02 o:=fun x hx=>hd2 _ (List.mem_map_of_mem hx) _ (by simp)
   have ho:=hl o (List.mem_append_right _ (List.mem_singleton.2 rfl))
   rw [zce]
   obtain ⟨b,hb⟩:∃ b,z5p key S = b:=⟨_,rfl⟩
   rw [hb] at ih ⊢
   by_cases hs:zbj key o
   ·rw [zek hs]
    cases b with
    | none =>
      refine ⟨(fun e=>by cases e),fun x hx=>?_⟩
      obtain rfl:o = x:=Option.some.inj hx
      refine ⟨by simp,hs,fun y hy ks=>?_⟩
      rcases List.mem_append.1 hy with hy | hy
      ·exact absurd ks (ih.none rfl y hy)
      ·exact .inl (List.mem_singleton.1 hy)
    | some x =>
      obtain ⟨i1,i2,i3⟩:=ih.some x rfl
      show BestAt key _ (if z7l x o = true then some o else some x)
      split
      ·rename_i hbf
       refine ⟨(fun e=>by cases e),fun z hz=>?_⟩
       obtain rfl:o = z:=Option.some.inj hz
       refine ⟨by simp,hs,fun y hy ks=>?_⟩
       rcases List.mem_append.1 hy with hy | hy
       ·rcases i3 y hy ks with rfl | h2
        ·exact .inr hbf
        ·exact .inr (z8k h2 hbf)
       ·exact .inl (List.mem_singleton.1 hy)
      ·rename_i hbf
       refine ⟨(fun e=>by cases e),fun z hz=>?_⟩
       obtain rfl:x = z:=Option.some.inj hz
       refine ⟨List.mem_append_left _ i1,i2,fun y hy ks=>?_⟩
       rcases List.mem_append.1 hy with hy | hy
       ·exact i3 y hy ks
       ·obtain rfl:=List.mem_singleton.1 hy
        exact .inr ((z8d (by rw [hl x (List.mem_append_left _ i1),ho]) (hne x i1)).resolve_left hbf)
   ·rw [zfd hs]
    refine ⟨fun e y hy=>?_,fun x hx=>?_⟩
    ·rcases List.mem_append.1 hy with hy | hy
     ·exact ih.none e y hy
     ·rw [List.mem_singleton.1 hy];exact hs
    ·obtain ⟨i1,i2,i3⟩:=ih.some x hx
     refine ⟨List.mem_append_left _ i1,i2,fun y hy ks=>?_⟩
     rcases List.mem_append.1 hy with hy | hy
     ·exact i3 y hy ks
     ·rw [List.mem_singleton.1 hy] at ks;exact absurd ks hs
theorem ofN_set {L:List OpN} {key:List UInt8} {o:OpN}:o ∈ ofN L key [3] ↔ o ∈ L ∧ zbj key o:=by
 rw [ofN,List.mem_filter,(z24 L).mem_iff]
 simp only [decide_eq_true_eq,List.mem_singleton,zbj]
 exact ⟨fun h=>⟨h.1,h.2.2,h.2.1⟩,fun h=>⟨h.1,h.2.2,h.2.1⟩⟩
theorem zj5 {L:List OpN} (key:List UInt8) (hd:(L.map z02).Nodup) (hl:∀ o ∈ L,(z02 o).length = 32):z5p key L = (ofN L key [3]).getLast?:=by
 have h:=zcp key L.length L rfl hd hl
 obtain ⟨b,hb⟩:∃ b,z5p key L = b:=⟨_,rfl⟩
 rw [hb] at h ⊢
 cases b with
 | none =>
   have e:ofN L key [3] = []:=List.eq_nil_iff_forall_not_mem.2 fun o ho=>by
    obtain ⟨h1,h2⟩:=ofN_set.1 ho
    exact h.none rfl o h1 h2
   rw [e];rfl
 | some x =>
   obtain ⟨h1,h2,h3⟩:=h.some x rfl
   have hR:Rows (ofN L key [3]):=(z80 hd hl).filter _
   have hx:=ofN_set.2 ⟨h1,h2⟩
   obtain ⟨S,z,e⟩:∃ S z,ofN L key [3] = S ++ [z]:=by
    rcases List.eq_nil_or_concat (ofN L key [3]) with e | ⟨S,o,e⟩
    ·rw [e] at hx;cases hx
    ·exact ⟨S,o,by rw [e,List.concat_eq_append]⟩
   have hz:z ∈ ofN L key [3]:=by rw [e];simp
   obtain ⟨hz1,hz2⟩:=ofN_set.1 hz
   rw [e] at hx hR ⊢
   rw [List.getLast?_concat]
   rcases List.mem_append.1 hx with hx | hx
   ·exfalso
    have hxz:z7l x z = true:=(List.pairwise_append.1 hR).2.2 x hx z (by simp)
    rcases h3 z hz1 hz2 with e1 | e1
    ·rw [e1] at hxz;exact absurd hxz (by rw [zid];decide)
    ·exact zas hxz e1
   ·rw [List.mem_singleton.1 hx]
def z2o (key:List UInt8) (L:List OpN):List UInt8 × Bool:=match z5p key L with
 | none=>([],false)
 | some x=>(x.d.val,true)
def z61 (L:List OpN) (kind:Int) (key value:List UInt8):Bool:=L.any fun o=>decide (o.d.kind = kind) && (decide (o.d.key = key) && decide (o.d.val = value))
theorem realN_iff {L:List OpN} {kind:Int} {key value:List UInt8}:z61 L kind key value = true ↔ ∃ o ∈ L,o.d.kind = kind ∧ o.d.key = key ∧ o.d.val = value:=by
 simp [z61,List.any_eq_true]
open Go.BigFrame Go.Sort Go.Shelf
theorem zeg (B:Nat) (v:Value) (Q:List (List UInt8)) (w:World) (h:OwnS B v Q w) (hB:B ≤ w.heap.size) (hl:Q.length ≤ 100000) :
 Calls Tryz.prog 25 #[v] w fun e w'=>∃ v',e = .returned v' ∧ OwnS B v' (z1a Q) w' ∧ Below B w w':=by
 rcases h.formB with ⟨rfl,rfl⟩ | ⟨g,c,rfl,_,hBg,hgl⟩
 ·have HS:=Lib.hid (Any.slices_Sort_string_none Tryz.laysSort none 0 w)
  have HC:=Lib.hid (Any.slices_Compact_string_empty Tryz.laysCompact none 0 w)
  go_enter Tryz.func25,Tryz.ntmps25
  go_wp2_with (first
   | (refine Calls.mono (f:=49) HS.out ?_;rintro e w9 ⟨rfl,rfl⟩)
   | (refine Calls.mono (f:=50) HC.out ?_;rintro e w9 ⟨rfl,rfl⟩))
  go_ret
  exact ⟨_,rfl,OwnS.nil _ _,Below.refl _ _⟩
 ·have HG:=Lib.hid hBg
  obtain ⟨n,hn⟩:∃ n,Q.length = n:=⟨_,rfl⟩
  rw [hn] at h hl ⊢
  have HS:=Lib.hid (zf2 h hn hl)
  have HSC:=Lib.hid (z9d Q)
  have HSL:=Shut.mk (show (Q.mergeSort fun x y=>decide (x ≤ y)).length = n by rw [List.length_mergeSort];exact hn)
  obtain ⟨Z,hZ⟩:∃ Z,(Q.mergeSort fun x y=>decide (x ≤ y)) = Z:=⟨_,rfl⟩
  rw [hZ] at HS HSC HSL
  have HBB:=Lib.hid hB
  have HL:=Lib.hid hl
  clear h hn hZ hBg hgl hB hl
  go_enter Tryz.func25,Tryz.ntmps25
  go_wp2_with (first
   | (refine HS.out.mono ?_;rintro e w9 ⟨rfl,ho9,hg9⟩;have HO9:=Lib.hid ho9;have HCP:=Lib.hid (z96 ho9 HSL.out HL.out);have HB9:=Lib.hid ((Below.refl B w).grown hg9 HBB.out (fun j hj=>by cases hj;exact HG.out));clear ho9 hg9)
   | (refine HCP.out.mono ?_;rintro e w10 ⟨rfl,ho10,hb10⟩;have HO10:=Lib.hid ho10;have HB10:=Lib.hid (hb10 _ HB9.out);clear ho10 hb10))
  go_ret
  exact ⟨_,rfl,by rw [← HSC.out];exact HO10.out,HB10.out⟩
theorem vw_want (x:OpN) (pa:Option Addr) (pc gk:Nat) (key:List UInt8) (w:World) (hx:x.d.ref.length = 32) (hkey:w.cell? ⟨gk,0,none⟩ = some (.string ⟨key.toArray⟩)) :
 Calls Tryz.prog 24 (#[] ++ [Value.agg (opV x pa pc)].toArray ++ #[.pointer (some ⟨gk,0,none⟩)]) w fun e w'=>e = .returned (.bool (decide (x.d.key = key))) ∧ Below w.heap.size w w':=by
 show Calls Tryz.prog 24 #[.agg (opV x pa pc),.pointer (some ⟨gk,0,none⟩)] w _
 have b1:Below w.heap.size w (w.alloc (.cells (opV x pa pc) 49)):=(Below.refl _ _).alloc (Nat.le_refl _) _
 have x1:Cells w.heap.size 49 (opV x pa pc) (w.alloc (.cells (opV x pa pc) 49)):=heap_alloc_new w _
 have c1:=(z1l (z0d hx x1).1).2.1
 have ck:(w.alloc (.cells (opV x pa pc) 49)).cell? ⟨gk,0,none⟩ = some (.string ⟨key.toArray⟩):=(b1.cell (z48 hkey)).trans hkey
 have HB:=Lib.hid b1
 obtain ⟨k0,hk0⟩:∃ k0,x.d.key = k0:=⟨_,rfl⟩
 rw [hk0] at c1 ⊢
 clear b1 x1 hkey hk0
 by_cases he:k0 = key
 ·subst he
  rw [decide_eq_true rfl]
  go_enter Tryz.func24,Tryz.ntmps24
  go_wp2_with fail
  go_ret
  exact ⟨rfl,HB.out⟩
 ·rw [decide_eq_false he]
  go_enter Tryz.func24,Tryz.ntmps24
  go_wp2_with fail
  go_ret
  exact ⟨by
   show Ending.returned (Value.bool (k0 == key)) = _
   rw [beq_eq_false_iff_ne.2 he],HB.out⟩
def adds (key:List UInt8) (L:List OpN):List (List UInt8):=((z47 L).filter (z6b fun o=>decide (o.d.key = key))).map fun o=>o.d.val
theorem zbw (X:Nat → Prop) (B:Bs) (T:Ents) (s:DagN) (hs:List (List Nat)) (M:Bh) (key:List UInt8) (w:World) (h:SetAt X B T s hs M w) (hn:s.names.Nodup) (ht:Tame s) :
 Calls Tryz.prog 12 #[.pointer (some ⟨B.gs,0,none⟩),.string ⟨key.toArray⟩] w fun e w'=>∃ v V,e = .returned v ∧ OwnS w.heap.size v (z1a V) w' ∧ V.length ≤ 1000 ∧ (∀ y ∈ V,z61 s.ops 1 key y = true) ∧ ((∀ o ∈ s.ops,o.preds = []) → V = adds key s.ops) ∧ Below w.heap.size w w':=by
 have b1:Below w.heap.size w (w.alloc (.cells #[.string ⟨key.toArray⟩] 9)):=(Below.refl _ _).alloc (Nat.le_refl _) _
 have x1:Cells w.heap.size 9 #[.string ⟨key.toArray⟩] (w.alloc (.cells #[.string ⟨key.toArray⟩] 9)):=heap_alloc_new w _
 have HRM:=Lib.hid (zf8 X B T s hs M (fun o=>decide (o.d.key = key)) 24 _ #[.pointer (some ⟨w.heap.size,0,none⟩)] _ (h.below b1) hn ht Tryz.func24 rfl rfl (fun x hx pa pc w' hb=>vw_want x pa pc w.heap.size key w' (ht.ops x hx).d.ref.1 (by rw [(x1.below hb).at];rfl)))
 have hpm:=z24 s.ops
 have HFR:=Lib.hid (show ∀ x ∈ z47 s.ops,x.d.ref.length = 32 from fun x hx=>(ht.ops x (hpm.mem_iff.1 hx)).d.ref.1)
 have HRE:=Lib.hid (show ∀ x ∈ (z47 s.ops).filter (z6b fun o=>decide (o.d.key = key)),z61 s.ops 1 key x.d.val = true from fun x hx=>by
  obtain ⟨h1,h2⟩:=List.mem_filter.1 hx
  simp only [z6b,Bool.and_eq_true,decide_eq_true_eq] at h2
  exact realN_iff.2 ⟨x,hpm.mem_iff.1 h1,h2.1,h2.2,rfl⟩)
 have HLE:=Lib.hid (show ((z47 s.ops).filter (z6b fun o=>decide (o.d.key = key))).length ≤ 1000 from by
  have h1:=List.length_filter_le (z6b fun o:OpN=>decide (o.d.key = key)) (z47 s.ops)
  rw [hpm.length_eq] at h1
  have:=ht.many
  omega)
 have HAD:=Shut.mk (show adds key s.ops = ((z47 s.ops).filter (z6b fun o=>decide (o.d.key = key))).map fun o=>o.d.val from rfl)
 have HFT:=Lib.hid (show ∀ x ∈ (z47 s.ops).filter (z6b fun o=>decide (o.d.key = key)),x.d.ref.length = 32 from fun x hx=>HFR.out x (List.mem_filter.1 hx).1)
 have HB1:=Lib.hid b1
 have HZO:=Lib.hid (show (Tryz.prog.info? 49).bind (·.zero) = some (.agg (opL z04 none 0).toArray) by kernel_rfl)
 obtain ⟨W,hW⟩:∃ z,(z47 s.ops).filter (z6b fun o=>decide (o.d.key = key)) = z:=⟨_,rfl⟩
 rw [hW] at HRM HRE HLE HAD HFT
 clear h hn ht b1 x1 hpm hW HFR
 go_enter Tryz.func12,Tryz.ntmps12
 go_wp2_with fail
 refine HRM.out.mono ?_
 rintro e w2 ⟨v2,R,rfl,ho2,hsb,hre,hb2⟩
 obtain ⟨ar,cr,rfl⟩:=ho2.form
 obtain ⟨n,hne⟩:∃ n,R.length = n:=⟨_,rfl⟩
 have HN:=Shut.mk hne
 have hn2:n ≤ 1000:=hne ▸ Nat.le_trans hsb.length_le HLE.out
 have HA2:=Lib.hid ho2.at
 have HRR:=Lib.hid (show ∀ x ∈ R,x.d.ref.length = 32 from fun x hx=>HFT.out x (hsb.subset hx))
 have HRV:=Lib.hid (show ∀ y ∈ R.map fun o=>o.d.val,z61 s.ops 1 key y = true from fun y hy=>by
  obtain ⟨x,hx,rfl⟩:=List.mem_map.1 hy
  exact HRE.out x (hsb.subset hx))
 have HRA:=Lib.hid (show (∀ o ∈ s.ops,o.preds = []) → (R.map fun o=>o.d.val) = adds key s.ops from fun q=>by rw [HAD.out,hre q])
 have HB2:=Lib.hid (HB1.out.trans (hb2.mono HB1.out.size))
 rw [hne]
 clear ho2 hsb hre hb2 hne HRM HRE HFT HAD HLE
 go_wp2_with fail
 go_loopw [5,12] (fun tv i wr=>∃ (v:Value) (k:Nat),tv = v ∧ i = .int .i64 k ∧ k ≤ n ∧ OwnS w2.heap.size v ((R.map fun o=>o.d.val).take k) wr ∧ Below w2.heap.size w2 wr) (fun _ i _=>n - (intOf i).toNat)
 case atStart=>exact ⟨_,0,rfl,rfl,Nat.zero_le _,OwnS.nil _ _,Below.refl _ _⟩
 case round =>
  obtain ⟨wi,rfl⟩:∃ z,z = wr:=⟨_,rfl⟩
  obtain ⟨v,k,rfl,rfl,hk,ho,hb⟩:=hrel
  have HO:=Lib.hid ho
  have HBM:=Lib.hid hb
  have HB:=Lib.hid (HB2.out.trans (hb.mono HB2.out.size))
  have HAI:=Lib.hid (HA2.out.below hb)
  clear ho hb
  by_cases hlt:k < n
  ·obtain ⟨x,hx⟩:∃ x,R[k]? = some x:=⟨_,List.getElem?_eq_getElem (by rw [HN.out];exact hlt)⟩
   have hts:(R.map fun o=>o.d.val).take (k + 1) = (R.map fun o=>o.d.val).take k ++ [x.d.val]:=by
    rw [List.take_add_one,List.getElem?_map,hx]
    rfl
   have HTS:=Shut.mk hts
   have HXR:=Lib.hid (HRR.out x (List.mem_of_getElem? hx))
   obtain ⟨b,ob,rfl,hbl,pa,pc,q1,_⟩:=HAI.out.get hx
   have HQ1:=Lib.hid q1
   have HSL:=Lib.hid (show (Tryz.prog.info? 49).map (·.size) = some (opL x pa pc).length by rw [z14 HXR.out];exact Tryz.sizeO)
   have HSV:=Lib.hid (show (Tryz.prog.info? 49).map (·.size) = some (opV x pa pc).size by rw [z08 HXR.out];exact Tryz.sizeO)
   have HSZ:=Lib.hid (show (opL z04 none 0).toArray.size = (opV x pa pc).size by rw [z08 HXR.out];rfl)
   have HSA:=Lib.hid (z1c x pa pc)
   clear hx hts q1 hbl
   go_wp2_with (first
    | (refine wpList_load_mid rfl 49 _ rfl b (ob + k * 38) rfl (opL x pa pc) _ HQ1.out Tryz.underlying49 rfl HSL.out ?_)
    | (refine z0b rfl 49 rfl (opL z04 none 0) HZO.out ?_)
    | (refine z00 rfl 49 _ _ rfl rfl wi.heap.size (opL z04 none 0).toArray (opV x pa pc) 49 rfl rfl (heap_alloc_new wi _) HSV.out HSZ.out HSA.out ?_))
   intro w7 hcs hbs
   have hb7:Below wi.heap.size wi w7:=But.toBelow ((Below.refl _ wi).alloc (Nat.le_refl _) _) hbs.out (Nat.le_refl _) (by rw [World.size_alloc];exact Nat.le_succ _)
   have c2:=(z1l (z0d HXR.out hcs.out).1).2.2.1
   have HB7:=Lib.hid hb7
   obtain ⟨vl,hvl⟩:∃ z,x.d.val = z:=⟨_,rfl⟩
   rw [hvl] at c2 HTS
   clear hcs hbs hb7 hvl
   obtain ⟨oa,oc,rfl⟩:=HO.out.form
   obtain ⟨ol,hol⟩:∃ z,((R.map fun o=>o.d.val).take k).length = z:=⟨_,rfl⟩
   rw [hol] at HO ⊢
   have HOL:=Lib.hid (show ((R.map fun o=>o.d.val).take k).length ≤ 1000000 from by rw [List.length_take];omega)
   have b8:Below w7.heap.size w7 (w7.alloc (.cells #[.string ⟨vl.toArray⟩] 9)):=(Below.refl _ _).alloc (Nat.le_refl _) _
   have HO8:=Lib.hid (HO.out.below (HB7.out.trans (b8.mono HB7.out.size)))
   have HB8:=Lib.hid (HBM.out.trans ((HB7.out.trans (b8.mono HB7.out.size)).mono HBM.out.size))
   have HC8:=Lib.hid (show (w7.alloc (.cells #[.string ⟨vl.toArray⟩] 9)).cell? ((⟨w7.heap.size,0,none⟩:Addr).add 0) = some (.string ⟨vl.toArray⟩) from by
    rw [Addr.add_lit,Lib.cell_of_heap (heap_alloc_new w7 _)]
    rfl)
   clear hol b8
   go_wp2_with (refine z2t rfl _ _ rfl w2.heap.size (.slice oa ol oc) _ vl ⟨w7.heap.size,0,none⟩ 1 rfl HO8.out rfl HC8.out HOL.out HB8.out.size ?_)
   intro v9 w9 ho9 hb9 _
   have HO9:=Lib.hid (HTS.out ▸ ho9.out)
   have HB9:=Lib.hid (HB8.out.trans hb9.out)
   clear ho9 hb9
   go_wp2_with fail
   exact ⟨⟨v9,k + 1,rfl,by go_num,by omega,HO9.out,HB9.out⟩,by simp [intOf];omega⟩
  ·obtain rfl:k = n:=by omega
   have HE:=Lib.hid (show (R.map fun o=>o.d.val).take k = R.map fun o=>o.d.val from List.take_of_length_le (by rw [List.length_map,HN.out];exact Nat.le_refl _))
   have HML:=Lib.hid (show (R.map fun o=>o.d.val).length ≤ 1000 by rw [List.length_map,HN.out];exact hn2)
   have hO2:=HE.out ▸ HO.out
   obtain ⟨Q,hQ⟩:∃ Q,(R.map fun o=>o.d.val) = Q:=⟨_,rfl⟩
   rw [hQ] at hO2 HML HRV HRA
   have HAS:=Lib.hid (zeg _ _ Q wi hO2 HBM.out.size (Nat.le_trans HML.out (by decide)))
   clear hQ HE HO hO2
   go_wp2_with (refine HAS.out.mono ?_;rintro e w9 ⟨v9,rfl,ho9,hb9⟩;have HO9:=Lib.hid ho9;have HB9:=Lib.hid (HBM.out.trans hb9);clear ho9 hb9)
   go_ret
   exact ⟨_,Q,rfl,HO9.out.mono HB2.out.size,HML.out,HRV.out,HRA.out,HB2.out.trans (HB9.out.mono HB2.out.size)⟩
end Go.Proofs.YtjomgkiphecljaaGreatDoor
namespace Go.Proofs.YtjomgkiphecljaaGreatDoor
open Go.RowKit Go.BigFrame
theorem z8a (d:DraftN) (hr:IdOk d.ref) (hk:d.key.length ≤ 140737488351232) (hv:d.val.length ≤ 140737488351232) (w:World) :
 Calls Tryz.prog 64 #[.agg (z0p d)] w fun e w'=>e = .returned (.bool (decide (GoodD d))) ∧ Below w.heap.size w w':=by
 have hx:Cells w.heap.size 47 (z0p d) (w.alloc (.cells (z0p d) 47)):=heap_alloc_new w _
 have hb:Below w.heap.size w (w.alloc (.cells (z0p d) 47)):=(Below.refl _ _).alloc (Nat.le_refl _) _
 obtain ⟨c0,c1,c2,c3⟩:=z4c hx
 have HC3:=Lib.hid c3
 have HB:=Lib.hid hb
 have heq:=fun w'=>z59 d.ref zeroI hr.1 zeroI_ok.1 hr.2 zeroI_ok.2 w'
 have HI:=Lib.hid (show (Tryz.prog.info? 45).map (·.size) = some d.ref.length by rw [hr.1];exact Tryz.sizeI)
 obtain ⟨k,hkd⟩:∃ k,d.kind = k:=⟨_,rfl⟩
 obtain ⟨kl,hkl⟩:∃ n,d.key.length = n:=⟨_,rfl⟩
 obtain ⟨vl,hvl⟩:∃ n,d.val.length = n:=⟨_,rfl⟩
 have HG:=Shut.mk (show GoodD d ↔ 1 ≤ k ∧ k ≤ 5 ∧ 1 ≤ kl ∧ kl ≤ 16 ∧ vl ≤ 64 ∧ (k ≤ 3 → d.ref = zeroI) ∧ (k = 5 → d.ref ≠ zeroI ∧ d.val = []) by rw [← hkd,← hkl,← hvl];rfl)
 rw [hkd] at c0
 clear hx hb c3
 by_cases h1:k < 1
 ·have hgd:decide (GoodD d) = false:=decide_eq_false (fun h=>by have:=HG.out.1 h;omega)
  rw [hgd]
  go_enter Tryz.func64,Tryz.ntmps64
  go_wp2_with fail
  go_ret
  exact ⟨rfl,HB.out⟩
 by_cases h2:5 < k
 ·have hgd:decide (GoodD d) = false:=decide_eq_false (fun h=>by have:=HG.out.1 h;omega)
  rw [hgd]
  go_enter Tryz.func64,Tryz.ntmps64
  go_wp2_with fail
  go_ret
  exact ⟨rfl,HB.out⟩
 by_cases h3:kl < 1
 ·have hgd:decide (GoodD d) = false:=decide_eq_false (fun h=>by have:=HG.out.1 h;omega)
  rw [hgd]
  go_enter Tryz.func64,Tryz.ntmps64
  go_wp2_with fail
  go_ret
  exact ⟨rfl,HB.out⟩
 by_cases h4:16 < kl
 ·have hgd:decide (GoodD d) = false:=decide_eq_false (fun h=>by have:=HG.out.1 h;omega)
  rw [hgd]
  go_enter Tryz.func64,Tryz.ntmps64
  go_wp2_with fail
  go_ret
  exact ⟨rfl,HB.out⟩
 by_cases h5:64 < vl
 ·have hgd:decide (GoodD d) = false:=decide_eq_false (fun h=>by have:=HG.out.1 h;omega)
  rw [hgd]
  go_enter Tryz.func64,Tryz.ntmps64
  go_wp2_with fail
  go_ret
  exact ⟨rfl,HB.out⟩
 obtain ⟨z,hz2⟩:∃ z,(d.ref == zeroI) = z:=⟨_,rfl⟩
 have HZ:=Shut.mk hz2
 rw [hz2,zeu] at heq
 clear hz2
 have hzp:(z = true ↔ d.ref = zeroI):=by rw [← HZ.out];simp
 by_cases h6:k ≤ 3
 ·have hgd:decide (GoodD d) = z:=by
   cases z with
   | true=>exact decide_eq_true (HG.out.2 ⟨by omega,by omega,by omega,by omega,by omega,fun _=>hzp.1 rfl,fun h=>by omega⟩)
   | false=>exact decide_eq_false (fun h=>by have:=hzp.2 ((HG.out.1 h).2.2.2.2.2.1 h6);cases this)
  rw [hgd]
  clear hgd hzp
  go_enter Tryz.func64,Tryz.ntmps64
  go_wp2_with (refine z0a rfl 45 _ rfl w.heap.size 3 d.ref _ rfl HC3.out Tryz.underlying45 rfl HI.out ?_)
  go_ret
  exact ⟨rfl,HB.out⟩
 by_cases h7:k = 4
 ·have hgd:decide (GoodD d) = true:=decide_eq_true (HG.out.2 ⟨by omega,by omega,by omega,by omega,by omega,fun h=>by omega,fun h=>by omega⟩)
  rw [hgd]
  clear hgd hzp
  have h8:(k == 4) = true:=by simp [h7]
  go_enter Tryz.func64,Tryz.ntmps64
  go_wp2_with (refine z0a rfl 45 _ rfl w.heap.size 3 d.ref _ rfl HC3.out Tryz.underlying45 rfl HI.out ?_)
  go_ret
  exact ⟨rfl,HB.out⟩
 have h8:(k == 4) = false:=by simp [h7]
 have hgd:decide (GoodD d) = (!z && d.val == []):=by
  rw [za0]
  cases z with
  | true=>exact decide_eq_false (fun h=>((HG.out.1 h).2.2.2.2.2.2 (by omega)).1 (hzp.1 rfl))
  | false =>
    by_cases hv0:d.val = []
    ·rw [decide_eq_true hv0]
     exact decide_eq_true (HG.out.2 ⟨by omega,by omega,by omega,by omega,by omega,fun h=>by omega,fun _=>⟨fun e=>(by have:=hzp.2 e;cases this),hv0⟩⟩)
    ·rw [decide_eq_false hv0]
     exact decide_eq_false (fun h=>hv0 ((HG.out.1 h).2.2.2.2.2.2 (by omega)).2)
 rw [hgd]
 clear hgd hzp
 cases z with
 | true =>
   go_enter Tryz.func64,Tryz.ntmps64
   go_wp2_with (refine z0a rfl 45 _ rfl w.heap.size 3 d.ref _ rfl HC3.out Tryz.underlying45 rfl HI.out ?_)
   go_ret
   exact ⟨rfl,HB.out⟩
 | false =>
   go_enter Tryz.func64,Tryz.ntmps64
   go_wp2_with (refine z0a rfl 45 _ rfl w.heap.size 3 d.ref _ rfl HC3.out Tryz.underlying45 rfl HI.out ?_)
   go_ret
   exact ⟨rfl,HB.out⟩
end Go.Proofs.YtjomgkiphecljaaGreatDoor
