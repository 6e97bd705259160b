/-
  Joined: The developers' arranged of layer 12: the operations in their order, with the places of their Preds.; Keys of two texts: a member.; The developers' number of layer 12.; The developers' bit.; The developers' sweep of layer 12.
-/
import Derived.Deep.Cut
import Derived.Deep.CutBlock
import Derived.Deep.CutRange
import Derived.Lib.Hide
import Derived.StillTailTactics
import Derived.Test.YtjomgkiphecljaaGreatDoorJ01
import Derived.Test.YtjomgkiphecljaaGreatDoorJ10
import Derived.Test.YtjomgkiphecljaaGreatDoorJ11
import Derived.Test.YtjomgkiphecljaaGreatDoorJ19
set_option maxRecDepth 100000
set_option maxHeartbeats 8000000
namespace Go.Proofs.YtjomgkiphecljaaGreatDoor
open Go.RowKit Go.BigFrame Go.Sort Go.Shelf
def vpZ:List Value:=opL z04 none 0 ++ [.slice none 0 0,.int .i64 0,.bool false]
def zkh:Nat → Option (Nat × Nat):=fun i=>(#[(0,38),(38,1),(39,1),(40,1)]:Array (Nat × Nat))[i]?
theorem vp_fill (parts:List (Nat × Value)):Tryz.prog.built 93 parts = Instr.fill zkh vpZ.toArray parts:=by kernel_rfl
theorem built_vp (x:OpN) (pa qa:Option Addr) (pc m qc:Nat) (pr:List Nat) (hr:x.d.ref.length = 32) (hm:pr.length = m):Tryz.prog.built 93 [(0,.agg (opV x pa pc)),(1,.slice qa m qc)] = some (vpL ⟨x,pr,0,false⟩ pa pc qa qc).toArray:=by
 subst hm
 rw [vp_fill]
 refine (z1z zkh 0 0 38 (.agg (opV x pa pc)) _ [] (opL z04 none 0) [.slice none 0 0,.int .i64 0,.bool false] (opL x pa pc) rfl rfl (z14 hr) rfl rfl).trans ?_
 have h2:=z1z zkh 1 38 1 (.slice qa pr.length qc) [] (opL x pa pc) [.slice none 0 0] [.int .i64 0,.bool false] [.slice qa pr.length qc] rfl rfl rfl rfl (z14 hr)
 refine h2.trans ?_
 rw [z6v]
 rfl
theorem Tryz.infoVp:(Tryz.prog.info? 93).map (fun i=>(i.zero,i.size,i.bytes)) = some (some (.agg vpZ.toArray),41,152):=by kernel_rfl
theorem Tryz.zeroVp:(Tryz.prog.info? 93).bind (·.zero) = some (.agg vpZ.toArray):=by kernel_rfl
theorem Tryz.sizeVp:(Tryz.prog.info? 93).map (·.size) = some 41:=by kernel_rfl
theorem Tryz.infoInt:(Tryz.prog.info? 3).map (fun i=>(i.zero,i.size,i.bytes)) = some (some (.int .i64 0),1,8):=by kernel_rfl
theorem zd0 (w:World):(zeroValue 3).run Tryz.prog w = .ok (.int .i64 0) w:=by kernel_rfl
theorem map_take {α β:Type} {f:α → β} {L:List α} {M:List β} {k:Nat} (h:L.map f = M.take k) {y:α} (hy:M[k]? = some (f y)):(L ++ [y]).map f = M.take (k + 1):=by
 rw [List.map_append,h,List.take_add_one,hy]
 rfl
theorem zgp (X:Nat → Prop) (B:Bs) (T:Ents) (s:DagN) (hs:List (List Nat)) (M:Bh) (w:World) (h:SetAt X B T s hs M w) (hn:s.names.Nodup) (ht:Tame s) :
 Calls Tryz.prog 51 #[.pointer (some ⟨B.gs,0,none⟩)] w fun e w'=>∃ v L,e = .returned v ∧ OwnQ w.heap.size w'.heap.size 93 v L w' ∧ L.map (·.op) = z47 s.ops ∧ (∀ x ∈ L,x.num = 0 ∧ x.dr = false ∧ x.pr.length = x.op.preds.length ∧ ∀ p ∈ x.pr,p < s.ops.length) ∧ Below w.heap.size w w':=by
 have hmm:=@run_makeMap Tryz.prog
 have HOR:=Lib.hid (fun w' (b:Below w.heap.size w w')=>zlt X B T s hs M w' (h.below b) hn ht)
 have HRO:=Lib.hid (fun w' (b:Below w.heap.size w w')=>dev_row X B T s hs M w' (h.below b) hn ht)
 have hF:=za6 s hn ht
 have hlr:(z47 s.ops).length = s.ops.length:=(z24 s.ops).length_eq
 have hlm:=zj4 s
 have hmi:=rowN_ids s
 have hops:s.ops.length ≤ 1000:=by have:=ht.many;omega
 have HPR:=Lib.hid (show ∀ x ∈ z47 s.ops,x.preds.length ≤ 1000 from fun x hx=>Nat.le_trans (hF.2.1 x hx).many (by decide))
 have HPI:=Lib.hid (show ∀ x ∈ z47 s.ops,Ids x.preds from fun x hx=>(hF.2.1 x hx).preds)
 obtain ⟨n,hne⟩:∃ n,s.ops.length = n:=⟨_,rfl⟩
 rw [hne] at hops hlr hlm ⊢
 obtain ⟨R,hR⟩:∃ R,z47 s.ops = R:=⟨_,rfl⟩
 rw [hR] at HOR HRO hF hlr hlm hmi HPR HPI ⊢
 have HRL:=Shut.mk hlr
 have HLM:=Shut.mk hlm
 have HID:=Lib.hid hmi
 have HR:=Lib.hid hF.2.2.1
 have HZO:=Lib.hid (show (Tryz.prog.info? 49).bind (·.zero) = some (.agg (opL z04 none 0).toArray) by kernel_rfl)
 obtain ⟨i0,hi,hz0,hz1,hz2⟩:=info_parts Tryz.infoInt
 have HIF:=Lib.hid hi
 have HZ0:=Lib.hid hz0
 have HZ1:=Lib.hid hz1
 have HZ2:=Lib.hid hz2
 have HM1:=Lib.hid (zhs IdV (NumB n) w)
 have HB1:=Lib.hid (show Below w.heap.size w (w.alloc (.map #[] 0)) from (Below.refl _ _).alloc (Nat.le_refl _) _)
 have HS1:=Lib.hid (show (w.alloc (.map #[] 0)).heap.size = w.heap.size + 1 from World.size_alloc _ _)
 clear h hn ht hF hlr hlm hmi hne hR hi hz0 hz1 hz2
 go_enter Tryz.func51,Tryz.ntmps51
 go_wp2_with fail
 obtain ⟨w1,hw1⟩:∃ z,z = w.alloc (.map #[] 0):=⟨_,rfl⟩
 rw [← hw1] at HM1 HB1 HS1 ⊢
 obtain ⟨gm,hgm⟩:∃ g,w.heap.size = g:=⟨_,rfl⟩
 have HGM:=Shut.mk hgm
 rw [hgm] at HM1 ⊢
 clear hw1 hgm
 go_wp2_with (refine (HOR.out w1 HB1.out).mono ?_;rintro e w2 ⟨v2,rfl,ho2,hb2⟩;obtain ⟨a2,c2,rfl⟩:=ho2.form;rw [HLM.out] at ho2 ⊢;have HN2:=Lib.hid ho2;have HB2:=Lib.hid hb2;clear ho2 hb2)
 have HA2:=Lib.hid (HN2.out.at HID.out)
 have HM2:=Lib.hid (HM1.out.below HB2.out)
 have HB02:=Lib.hid (HB1.out.trans (HB2.out.mono HB1.out.size))
 go_loopw [16] (fun i wr=>∃ k N:Nat,i = .int .i64 k ∧ k ≤ n ∧ MapG IdV (NumB n) gm N wr ∧ Only (fun b=>b = gm) w2 wr) (fun i _=>n - (intOf i).toNat)
 case atStart=>exact ⟨0,0,rfl,Nat.zero_le _,HM2.out,Only.refl _ _⟩
 case round =>
  obtain ⟨wi,rfl⟩:∃ z,z = wr:=⟨_,rfl⟩
  obtain ⟨k,N,rfl,hk,hm,hb⟩:=hrel
  have HMI:=Lib.hid hm
  have HBI:=Lib.hid hb
  clear hm hb
  by_cases hlt:k < n
  ·obtain ⟨b,ob,rfl,hbl⟩:=HA2.out.some (by rw [HLM.out];omega)
   have hbm:gm < b:=by
    obtain ⟨g,c,h1,h2,_⟩:=HN2.out.formB (by rw [HLM.out];omega)
    injection h1 with h1
    injection h1 with h1
    injection h1 with h1
    have:=HS1.out
    have:=HGM.out
    omega
   have HAI:=Lib.hid (HA2.out.only HBI.out (fun a ha _ e=>by cases ha;simp only at e;omega))
   have g1:=HAI.out.get (i:=k) (by rw [HLM.out];omega)
   have i1:=Ids.getD HID.out (i:=k) (by rw [HLM.out];omega)
   obtain ⟨x,hx⟩:∃ x,(R.map z02).getD k [] = x:=⟨_,rfl⟩
   rw [hx] at g1 i1
   have HXI:=Lib.hid i1
   have HG1:=Lib.hid g1
   have HS5:=Lib.hid (show (Tryz.prog.info? 45).map (·.size) = some x.length by rw [i1.1];exact Tryz.sizeI)
   have HL2:=Lib.hid (show (List.replicate 32 0).length = x.length by rw [i1.1];rfl)
   clear hx g1 i1 hbl hbm
   go_wp2_with (first
    | (refine z0a rfl 45 _ rfl b (ob + k * 32) x _ rfl HG1.out Tryz.underlying45 rfl HS5.out ?_)
    | (refine z06 rfl 45 _ _ rfl rfl wi.heap.size .u8 (List.replicate 32 0) x 45 rfl rfl (heap_alloc_new wi _) HS5.out HL2.out ?_))
   intro w5 hc' hb'
   have hb5:Below wi.heap.size wi w5:=But.toBelow ((Below.refl _ _).alloc (Nat.le_refl _) _) hb'.out (Nat.le_refl _) (by rw [World.size_alloc];exact Nat.le_succ _)
   have HC5:=Lib.hid (show Blk wi.heap.size 45 .u8 x w5 from hc'.out)
   have HM5:=Lib.hid (HMI.out.below hb5)
   have HO5:=Lib.hid (HBI.out.below hb5)
   clear hc' hb' hb5
   go_wp2_with (first
    | (refine z07 rfl 45 _ rfl wi.heap.size .u8 x 45 _ rfl HC5.out Tryz.underlying45 rfl HS5.out ?_)
    | (refine z63 rfl _ _ _ 113 45 3 rfl Tryz.idKey.law (IdV.reads Tryz.idKey) Tryz.underlying113 HM5.out (idV x) (.int .i64 (k:Int)) ⟨x,HXI.out,rfl⟩ ⟨k,hlt,rfl⟩ rfl rfl rfl ?_))
   intro w6 N6 hm6 _ ho6
   have HM6:=Lib.hid hm6.out
   have HO6:=Lib.hid (HO5.out.trans ho6.out (fun b e=>.inl e))
   clear hm6 ho6
   go_wp2_with fail
   exact ⟨⟨k + 1,N6,by go_num,by omega,HM6.out,HO6.out⟩,by simp [intOf];omega⟩
  ·obtain rfl:k = n:=by omega
   have HB3:=Lib.hid (Only.toBelow HB02.out HBI.out (fun b e=>by rw [e];exact Nat.le_of_eq HGM.out) (HB02.out.size))
   go_wp2_with (refine (HRO.out wi HB3.out).mono ?_;rintro e w4 ⟨v4,rfl,ho4,hb4⟩;obtain ⟨a4,c4,rfl⟩:=ho4.form;rw [HRL.out] at ho4 ⊢;have HA4:=Lib.hid ho4.at;have HM4:=Lib.hid (HMI.out.below hb4);have HB4:=Lib.hid (HB3.out.trans (hb4.mono HB3.out.size));clear ho4 hb4)
   go_loopw [6,28] (fun tv i wr=>∃ (v:Value) (t:Nat) (L:List VpN),tv = v ∧ i = .int .i64 t ∧ t ≤ k ∧ OwnQ w4.heap.size wr.heap.size 93 v L wr ∧ L.length = t ∧ L.map (·.op) = R.take t ∧ (∀ x ∈ L,x.num = 0 ∧ x.dr = false ∧ x.pr.length = x.op.preds.length ∧ ∀ p ∈ x.pr,p < k) ∧ Below w4.heap.size w4 wr) (fun _ i _=>k - (intOf i).toNat)
   case atStart=>exact ⟨_,0,[],rfl,rfl,Nat.zero_le _,OwnQ.nil _ _ _ _,rfl,rfl,(fun x hx=>by cases hx),Below.refl _ _⟩
   case round =>
    obtain ⟨wi,rfl⟩:∃ z,z = wr:=⟨_,rfl⟩
    obtain ⟨v,t,L,rfl,rfl,htk,ho,hlL,hLR,hLf,hb⟩:=hrel
    have HO:=Lib.hid ho
    have HLL:=Shut.mk hlL
    have HLR:=Shut.mk hLR
    have HLF:=Lib.hid hLf
    have HBM:=Lib.hid hb
    have HAI:=Lib.hid (HA4.out.below hb)
    have HMX:=Lib.hid (HM4.out.below hb)
    clear ho hlL hLR hLf hb
    by_cases hlt:t < k
    ·obtain ⟨x,hx⟩:∃ x,R[t]? = some x:=⟨_,List.getElem?_eq_getElem (by rw [HRL.out];exact hlt)⟩
     have hxm:=List.mem_of_getElem? hx
     have HXR:=Lib.hid (HR.out x hxm)
     have hxp:=HPR.out x hxm
     have HXI:=Lib.hid (HPI.out x hxm)
     have HXT:=Lib.hid hx
     obtain ⟨b,ob,rfl,hbl,pa,pc,q1,q2⟩:=HA4.out.get hx
     have HQ1:=Lib.hid (z0c q1 HBM.out hbl)
     have HQ2:=Lib.hid (q2.below HBM.out)
     have HQL:=Lib.hid (show ∀ a,pa = some a → x.preds ≠ [] → a.block < w4.heap.size from fun a ha h0=>q2.lt h0 ha)
     have HSL:=Lib.hid (show (Tryz.prog.info? 49).map (·.size) = some (opL x pa pc).length by rw [z14 HXR.out];exact Tryz.sizeO)
     have HSV:=Lib.hid (show (Tryz.prog.info? 49).map (·.size) = some (opV x pa pc).size by rw [z08 HXR.out];exact Tryz.sizeO)
     have HSZ:=Lib.hid (show (opL z04 none 0).toArray.size = (opV x pa pc).size by rw [z08 HXR.out];rfl)
     have HSA:=Lib.hid (z1c x pa pc)
     clear hx hxm q1 q2 hbl
     go_wp2_with (first
      | (refine wpList_load_mid rfl 49 _ rfl b (ob + t * 38) rfl (opL x pa pc) _ HQ1.out Tryz.underlying49 rfl HSL.out ?_)
      | (refine z0b rfl 49 rfl (opL z04 none 0) HZO.out ?_)
      | (refine z00 rfl 49 _ _ rfl rfl wi.heap.size (opL z04 none 0).toArray (opV x pa pc) 49 rfl rfl (heap_alloc_new wi _) HSV.out HSZ.out HSA.out ?_))
     intro w5 hcs hbs
     have hb5:Below wi.heap.size wi w5:=But.toBelow ((Below.refl _ wi).alloc (Nat.le_refl _) _) hbs.out (Nat.le_refl _) (by rw [World.size_alloc];exact Nat.le_succ _)
     have HC5:=Lib.hid (show Cells wi.heap.size 49 (opV x pa pc) w5 from hcs.out)
     have c37:=(z0d HXR.out HC5.out).2.2.2
     have HB5:=Lib.hid hb5
     have HZ5:=Lib.hid (show wi.heap.size < w5.heap.size from Cells.lt HC5.out)
     obtain ⟨m,hm⟩:∃ m,x.preds.length = m:=⟨_,rfl⟩
     have HPM:=Shut.mk hm
     rw [hm] at hxp c37
     obtain ⟨g8,hg8⟩:∃ g,wi.heap.size = g:=⟨_,rfl⟩
     have HG8:=Shut.mk hg8
     rw [hg8] at HC5 c37 HZ5 ⊢
     clear hcs hbs hb5 hm hg8
     go_wp2_with (at_make;refine wpList_make_full _ rfl _ _ 30 rfl w5.heap.size 3 i0 _ 1 Tryz.underlying30 HIF.out HZ0.out HZ1.out .i64 .i64 _ _ m rfl rfl rfl rfl (by rw [HZ2.out];omega) (by unfold maxLen;omega) (Nat.le_refl _) ?_)
     intro w6 ho6 hg6
     have HD6:=Lib.hid (Blk.made ho6)
     have hb6:=(Below.refl w5.heap.size w5).grown hg6 (Nat.le_refl _) (fun k hk=>by cases hk)
     have HB6:=Lib.hid hb6
     have c37':=(z0d HXR.out (HC5.out.below hb6)).2.2.2
     rw [HPM.out] at c37'
     have HZ6:=Lib.hid (show w5.heap.size < w6.heap.size from HD6.out.lt)
     obtain ⟨gq,hgq⟩:∃ g,w5.heap.size = g:=⟨_,rfl⟩
     have HGQ:=Shut.mk hgq
     rw [hgq] at HD6 HZ6 ⊢
     clear ho6 hg6 hb6 c37 hgq
     go_wp2_with fail
     go_loopw [39] (fun i wr=>∃ (j:Nat) (D:List Nat),i = .int .i64 j ∧ j ≤ m ∧ D.length = m ∧ (∀ p ∈ D,p < k) ∧ Blk gq 3 .i64 D wr ∧ Only (fun b=>b = gq) w6 wr) (fun i _=>m - (intOf i).toNat)
     case atStart=>exact ⟨0,List.replicate m 0,rfl,Nat.zero_le _,List.length_replicate,(fun p hp=>by rw [(List.mem_replicate.1 hp).2];omega),HD6.out,Only.refl _ _⟩
     case round =>
      obtain ⟨wj,rfl⟩:∃ z,z = wr:=⟨_,rfl⟩
      obtain ⟨j,D,rfl,hjm,hDl,hDk,hD,ho⟩:=hrel
      have HDL:=Shut.mk hDl
      have HDK:=Lib.hid hDk
      have HD:=Lib.hid hD
      have HOJ:=Lib.hid ho
      have HB5J:=Lib.hid (Only.toBelow HB6.out ho (fun b e=>by rw [e,← HGQ.out];exact Nat.le_refl _) HB6.out.size)
      have HBWJ:=Lib.hid (HB5.out.trans (HB5J.out.mono HB5.out.size))
      have HPJ:=Lib.hid (HQ2.out.below HBWJ.out)
      clear hDl hDk hD ho
      by_cases hlt2:j < m
      ·obtain ⟨bp,op,rfl,hbp⟩:=HPJ.out.some (by rw [HPM.out];omega)
       have g1:=HPJ.out.get (i:=j) (by rw [HPM.out];exact hlt2)
       have i1:=Ids.getD HXI.out (i:=j) (by rw [HPM.out];exact hlt2)
       obtain ⟨p,hp⟩:∃ p,x.preds.getD j [] = p:=⟨_,rfl⟩
       rw [hp] at g1 i1
       have HG1:=Lib.hid g1
       have HPO:=Lib.hid i1
       have HMJ:=Lib.hid (HMX.out.below HBWJ.out)
       obtain ⟨v,hv,hr⟩:=HMJ.out.lookup Tryz.idKey.law (IdV.reads Tryz.idKey) Tryz.underlying113 zd0 ⟨p,i1,rfl⟩
       obtain ⟨q,hq,rfl⟩:=NumB.of (by omega) hv
       have HLK:=Lib.hid hr
       have hq2:q < k:=hq
       have HS7:=Lib.hid (show (Tryz.prog.info? 45).map (·.size) = some p.length by rw [i1.1];exact Tryz.sizeI)
       have HL7:=Lib.hid (show (List.replicate 32 0).length = p.length by rw [i1.1];rfl)
       clear hp g1 i1 hv hr hq hbp
       go_wp2_with (first
        | (refine z0a rfl 45 _ rfl bp (op + j * 32) p _ rfl HG1.out Tryz.underlying45 rfl HS7.out ?_)
        | (refine z06 rfl 45 _ _ rfl rfl wj.heap.size .u8 (List.replicate 32 0) p 45 rfl rfl (heap_alloc_new wj _) HS7.out HL7.out ?_))
       intro w7 hc' hb'
       have hb7:Below wj.heap.size wj w7:=But.toBelow ((Below.refl _ _).alloc (Nat.le_refl _) _) hb'.out (Nat.le_refl _) (by rw [World.size_alloc];exact Nat.le_succ _)
       have HC7:=Lib.hid (show Blk wj.heap.size 45 .u8 p w7 from hc'.out)
       have hD7:=HD.out.below hb7
       have c7:=hD7.cell j (by rw [HDL.out];exact hlt2)
       have f7:=hD7.frozen j
       have HD7:=Lib.hid hD7
       have HO7:=Lib.hid (HOJ.out.below hb7)
       have HLK7:=Lib.hid (HLK.out w7 (hb7.block gm HMJ.out.lt))
       clear hc' hb' hb7 hD7
       go_wp2_with (first
        | (refine z07 rfl 45 _ rfl wj.heap.size .u8 p 45 _ rfl HC7.out Tryz.underlying45 rfl HS7.out ?_)
        | (refine z2g (by rfl) _ _ 113 rfl (.map (some gm)) (idV p) (.int .i64 (q:Int)) rfl rfl HLK7.out ?_))
       exact ⟨⟨j + 1,D.set j q,by go_num,by omega,by rw [List.length_set];exact HDL.out,(fun z hz=>by
        rcases List.mem_or_eq_of_mem_set hz with hz | rfl
        ·exact HDK.out z hz
        ·exact hq2),HD7.out.set j q,HO7.out.setCell j _ (.inl rfl)⟩,by simp [intOf];omega⟩
      ·obtain rfl:j = m:=by omega
       have HCJ:=Lib.hid (HC5.out.below HB5J.out)
       have HQJ:=Lib.hid (show PrAt (some ⟨gq,0,none⟩) D wj from .inr ⟨gq,rfl,HD.out.lt,fun i hi=>HD.out.cell i hi⟩)
       have HOWJ:=Lib.hid ((HO.out.below HBWJ.out).mono (Nat.le_refl _) HBWJ.out.size)
       have HBP:=Lib.hid (built_vp x pa (some ⟨gq,0,none⟩) pc j j D HXR.out HDL.out)
       have HR8:=Lib.hid (z3f (P:=Tryz.prog) 88 93 (vpL ⟨x,D,0,false⟩ pa pc (some ⟨gq,0,none⟩) j) _ _ _ Tryz.underlying88 Tryz.infoVp (z4o HXR.out) (by decide) (by decide))
       obtain ⟨oa,oc,rfl⟩:=HO.out.form
       rw [HLL.out] at HO HOWJ ⊢
       have HOL:=Lib.hid (show L.length ≤ 1000000 from by rw [HLL.out];omega)
       go_wp2_with (first
        | (refine z01 rfl 49 _ rfl g8 (opV x pa pc) 49 _ rfl HCJ.out Tryz.underlying49 rfl HSV.out ?_)
        | (refine z0n rfl 93 _ rfl [(0,.agg (opV x pa pc)),(1,.slice (some ⟨gq,0,none⟩) j j)] _ (by rw [List.map_toArray];rfl) HBP.out ?_)
        | (refine z34 rfl 88 93 _ rfl (vpL ⟨x,D,0,false⟩ pa pc (some ⟨gq,0,none⟩) j) rfl HR8.out ?_))
       intro w9 hc9 hb9
       have HC9:=Lib.hid hc9.out.news
       have HI9:=Lib.hid (HPJ.out.below hb9.out)
       have HQ9:=Lib.hid (HQJ.out.only (Only.of (O:=fun _=>False) hb9.out) (fun _ _ _=>id))
       have HO9:=Lib.hid ((HOWJ.out.below hb9.out).mono (Nat.le_refl _) hb9.out.size)
       have HNE:=Lib.hid (show ∀ a,pa = some a → x.preds ≠ [] → (Value.slice oa t oc).ownBlock ≠ some a.block from fun a ha h0 e=>by
        have h1:=HQL.out a ha h0
        have h2:=(HO.out.lt e).1
        omega)
       have HNQ:=Lib.hid (show ∀ a:Addr,some (⟨gq,0,none⟩:Addr) = some a → D ≠ [] → (Value.slice oa t oc).ownBlock ≠ some a.block from fun a ha _ e=>by
        have h2:=(HO.out.lt e).2
        cases ha
        have h3:=HGQ.out
        have h4:=HB5.out.size
        simp only at h2
        omega)
       have HB9:=Lib.hid (HBM.out.trans ((HBWJ.out.trans (hb9.out.mono HBWJ.out.size)).mono HBM.out.size))
       obtain ⟨g9,hg9⟩:∃ z,wj.heap.size = z:=⟨_,rfl⟩
       rw [hg9] at HC9 ⊢
       clear hc9 hb9 hg9
       go_wp2_with (refine z9n rfl _ _ 88 93 rfl w4.heap.size 152 (.agg vpZ.toArray) rfl (by decide) Tryz.underlying88 Tryz.infoVp (.slice oa t oc) L ⟨x,D,0,false⟩ pa (some ⟨gq,0,none⟩) pc j HXR.out HI9.out HQ9.out HNE.out HNQ.out ⟨g9,0,none⟩ 1 rfl HO9.out rfl HC9.out HOL.out HB9.out.size ?_)
       intro v10 w10 ho10 hb10 _
       have HO10:=Lib.hid ho10.out
       have HB10:=Lib.hid hb10.out
       clear ho10 hb10
       go_wp2_with fail
       exact ⟨⟨v10,t + 1,_,rfl,by go_num,by omega,HO10.out,by rw [List.length_append,HLL.out];rfl,map_take HLR.out HXT.out,(fun z hz=>by
        rcases List.mem_append.1 hz with hz | hz
        ·exact HLF.out z hz
        ·obtain rfl:=List.mem_singleton.1 hz
         exact ⟨rfl,rfl,by rw [HPM.out];exact HDL.out,HDK.out⟩),HB9.out.trans HB10.out⟩,by simp [intOf];omega⟩
    ·obtain rfl:t = k:=by omega
     have HE:=Lib.hid (show R.take t = R from List.take_of_length_le (by rw [HRL.out];exact Nat.le_refl _))
     go_wp2_with fail
     go_ret
     exact ⟨_,L,rfl,HO.out.mono HB4.out.size (Nat.le_refl _),by rw [HLR.out,HE.out],HLF.out,HB4.out.trans (HBM.out.mono HB4.out.size)⟩
end Go.Proofs.YtjomgkiphecljaaGreatDoor
namespace Go.Proofs.YtjomgkiphecljaaGreatDoor
open Go.RowKit Go.BigFrame
def memV (k v:List UInt8):Value:=.agg #[.string ⟨k.toArray⟩,.string ⟨v.toArray⟩]
theorem Tryz.memKey:Maps.Keyed Tryz.prog 118 :=
 Maps.Keyed.of_law (deep_law_laid (by kernel_rfl) (m:=2) (by omega) (of_decide_eq_true (by kernel_rfl)) (by kernel_rfl) (by rw [Tryz.underlying118]))
def MemV (v:Value):Prop:=∃ k x:List UInt8,k.length ≤ 1000 ∧ x.length ≤ 1000 ∧ v = memV k x
theorem MemV.reads (v:Value) (h:MemV v):∃ l,keyOf Tryz.prog 118 v = some l:=by
 obtain ⟨k,x,hk,hx,rfl⟩:=h
 unfold keyOf
 rw [Tryz.underlying118]
 have hk1:Tryz.prog.keyType 118 = true:=by kernel_rfl
 have hc:Tryz.prog.cellsOf 118 = 2:=by kernel_rfl
 have hc1:Tryz.prog.cellsOf 9 = 1:=by kernel_rfl
 have ml:∀ l:List UInt8,l.length ≤ 1000 → l.length ≤ maxLen:=fun l h=>Nat.le_trans h (by decide)
 obtain ⟨d,hd⟩:∃ d,Tryz.prog.types.size = d + 1:=⟨_,rfl⟩
 simp only [hk1,memV,Value.formed,Tryz.underlying118,hc,Value.cells,hd,Bool.true_and]
 unfold Program.keyLits
 simp only [Tryz.underlying118,hc]
 have h1:∀ l:List UInt8,l.length ≤ 1000 → Tryz.prog.keyLits (d + 1) 9 [.string ⟨l.toArray⟩] = some [.string l]:=fun l h=>by
  unfold Program.keyLits
  simp only [Tryz.underlying9]
  have hs:(⟨l.toArray⟩:ByteArray).size ≤ maxLen:=by
   show l.toArray.size ≤ maxLen
   rw [List.size_toArray]
   exact ml l h
  simp [hs]
 simp [hc1,h1 k hk,h1 x hx]
theorem mem_fill (parts:List (Nat × Value)):Tryz.prog.built 118 parts = Instr.fill (fun i=>(#[(0,1),(1,1)]:Array (Nat × Nat))[i]?) #[.string ⟨#[]⟩,.string ⟨#[]⟩] parts:=by kernel_rfl
theorem zei (k x:List UInt8):Tryz.prog.built 118 [(0,.string ⟨k.toArray⟩),(1,.string ⟨x.toArray⟩)] = some #[.string ⟨k.toArray⟩,.string ⟨x.toArray⟩]:=by
 rw [mem_fill]
 rfl
open Go.Sort Go.Shelf
def vpV (x:VpN) (pa:Option Addr) (pc:Nat) (qa:Option Addr) (qc:Nat):Array Value:=(vpL x pa pc qa qc).toArray
def z3n (x:VpN):OpN × List Nat × Bool:=(x.op,x.pr,x.dr)
theorem zgw {L L':List VpN} (h:L'.map z3n = L.map z3n) {x:VpN} (hx:x ∈ L'):∃ y ∈ L,y.op = x.op ∧ y.pr = x.pr ∧ y.dr = x.dr:=by
 have:z3n x ∈ L.map z3n:=h ▸ List.mem_map.2 ⟨x,hx,rfl⟩
 obtain ⟨y,hy,he⟩:=List.mem_map.1 this
 simp only [z3n,Prod.mk.injEq] at he
 exact ⟨y,hy,he.1,he.2.1,he.2.2⟩
theorem z9b {α β:Type} {f:α → β} {L:List α} {i:Nat} {x y:α} (hx:L[i]? = some x) (h:f y = f x):(L.set i y).map f = L.map f:=by
 rw [List.map_set,h]
 refine List.ext_getElem? fun j=>?_
 by_cases hij:i = j
 ·subst hij
  have hl:=(List.getElem?_eq_some_iff.1 hx).1
  rw [List.getElem?_set_self (by rw [List.length_map];exact hl),List.getElem?_map,hx]
  rfl
 ·rw [List.getElem?_set_ne hij]
def memZ:List Value:=[.string ⟨#[]⟩,.string ⟨#[]⟩]
theorem Tryz.zeroMem:(Tryz.prog.info? 118).bind (·.zero) = some (.agg memZ.toArray):=by kernel_rfl
theorem Tryz.sizeMem:(Tryz.prog.info? 118).map (·.size) = some 2:=by kernel_rfl
theorem vp_at {g:Nat} {t:TypeId} {x:VpN} {pa qa:Option Addr} {pc qc:Nat} {w:World} (hr:x.op.d.ref.length = 32) (h:Cells g t (vpV x pa pc qa qc) w) :
 w.rangeAt g 0 (opL x.op pa pc) ∧ w.cell? ⟨g,0,none⟩ = some (.int .i64 x.op.d.kind) ∧ w.cell? ⟨g,1,none⟩ = some (.string ⟨x.op.d.key.toArray⟩) ∧ w.cell? ⟨g,2,none⟩ = some (.string ⟨x.op.d.val.toArray⟩) ∧ w.cell? ⟨g,40,none⟩ = some (.bool x.dr):=by
 have h1:w.rangeAt g 0 (vpL x pa pc qa qc):=fun j v hj=>by
  rw [Nat.zero_add,h.at,vpV,List.getElem?_toArray]
  exact hj
 obtain ⟨h2,_,_,h4⟩:=z9t hr h1
 exact ⟨h2,h2 0 _ rfl,h2 1 _ rfl,h2 2 _ rfl,h4⟩
theorem zls (B Z:Nat) (L:List VpN) (ao:Option Addr) (n c:Nat) (K:OpN → Bool) (f:FuncId) (fn:Func) (caps:Array Value) (w:World) (h:OwnQ B Z 93 (.slice ao n c) L w) (hn:L.length = n) (hBZ:B ≤ Z) (hZ:Z ≤ w.heap.size) (hF:∀ x ∈ L,x.op.Fit) (h0:∀ x ∈ L,x.num ≤ n) (hl:n ≤ 1000)
 (hfn : Tryz.prog.funcs[f]? = some fn) (hname : (fn.name == "runtime.NumGoroutine") = false) (hbody : fn.body.isNone = false)
 (hK:∀ x ∈ L,∀ pa pc w',Below B w w' → Calls Tryz.prog f (#[] ++ [Value.agg (opV x.op pa pc)].toArray ++ caps) w' fun e w''=>e = .returned (.bool (K x.op)) ∧ Below w'.heap.size w' w'') :
 Calls Tryz.prog 52 #[.slice ao n c,.func (.func f) #[] caps] w fun e w'=>∃ (N:Nat) (L':List VpN),e = .returned (.int .i64 (N:Int)) ∧ N ≤ n ∧ OwnQ B Z 93 (.slice ao n c) L' w' ∧ L'.map z3n = L.map z3n ∧ (∀ x ∈ L',x.num ≤ n) ∧ Below B w w':=by
 have hmm:=@run_makeMap Tryz.prog
 have HF:=Lib.hid hF
 have H0:=Lib.hid h0
 have HK:=Lib.hid hK
 have HFN:=Shut.mk hfn
 have HNM:=Shut.mk hname
 have HBD:=Shut.mk hbody
 have HNL:=Shut.mk hn
 have HBW:=Lib.hid (show B ≤ w.heap.size by omega)
 have HZZ:=Lib.hid hZ
 have HZM:=Lib.hid Tryz.zeroMem
 have b1:Below w.heap.size w (w.alloc (.map #[] 0)):=(Below.refl _ _).alloc (Nat.le_refl _) _
 have HM1:=Lib.hid (zhs MemV (NumB (n + 1)) w)
 have HB1:=Lib.hid b1
 have HO1:=Lib.hid (h.below b1)
 clear h hn hBZ hZ hF h0 hfn hname hbody hK b1
 go_enter Tryz.func52,Tryz.ntmps52
 go_wp2_with fail
 obtain ⟨w1,hw1⟩:∃ z,z = w.alloc (.map #[] 0):=⟨_,rfl⟩
 rw [← hw1] at HM1 HB1 HO1 ⊢
 obtain ⟨gm,hgm⟩:∃ g,w.heap.size = g:=⟨_,rfl⟩
 have HGM:=Shut.mk hgm
 rw [hgm] at HM1 ⊢
 clear hw1 hgm
 go_loopw [14] (fun i wr=>∃ k N:Nat,i = .int .i64 k ∧ k ≤ n ∧ N ≤ k ∧ MapG MemV (NumB (n + 1)) gm N wr ∧ Below w.heap.size w wr ∧ OwnQ B Z 93 (.slice ao n c) L wr) (fun i _=>n - (intOf i).toNat)
 case atStart=>exact ⟨0,0,rfl,Nat.zero_le _,Nat.le_refl _,HM1.out,HB1.out,HO1.out⟩
 case round =>
  clear HM1 HB1 HO1
  obtain ⟨wi,rfl⟩:∃ z,z = wr:=⟨_,rfl⟩
  obtain ⟨k,N,rfl,hk,hNk,hm,hb,ho⟩:=hrel
  have HMI:=Lib.hid hm
  have HBI:=Lib.hid hb
  have HOI:=Lib.hid ho
  clear hm hb ho
  by_cases hlt:k < n
  ·obtain ⟨x,hx⟩:∃ x,L[k]? = some x:=⟨_,List.getElem?_eq_getElem (by rw [HNL.out];exact hlt)⟩
   have hxm:=List.mem_of_getElem? hx
   have HFX:=Lib.hid (HF.out x hxm)
   obtain ⟨g,rfl,hgl⟩:∃ g,ao = some ⟨g,0,none⟩ ∧ g < Z:=by
    rcases HOI.out.formB with ⟨_,h2⟩ | ⟨g,c',h2,_,_,h3,_⟩
    ·have:=HNL.out;rw [h2] at this;simp at this;omega
    ·injection h2 with h4 _ _
     exact ⟨g,h4,h3⟩
   obtain ⟨_,_,pa,pc,qa,qc,q1,q2,q3,q4,q5⟩:=HOI.out.get hx
   have HQ1:=Lib.hid (show wi.rangeAt g (k * 41) (vpL x pa pc qa qc) by rw [Nat.mul_comm];exact q1)
   have HKX:=Lib.hid (fun w'=>HK.out x hxm pa pc w')
   have HSL:=Lib.hid (show (Tryz.prog.info? 93).map (·.size) = some (vpL x pa pc qa qc).length by rw [z4o HFX.out.d.ref.1];exact Tryz.sizeVp)
   have HSV:=Lib.hid (show (Tryz.prog.info? 93).map (·.size) = some (vpV x pa pc qa qc).size by rw [vpV,List.size_toArray,z4o HFX.out.d.ref.1];exact Tryz.sizeVp)
   have HSZ:=Lib.hid (show vpZ.toArray.size = (vpV x pa pc qa qc).size by rw [vpV,List.size_toArray,List.size_toArray,z4o HFX.out.d.ref.1];rfl)
   have HSA:=Lib.hid (show (vpV x pa pc qa qc).all (·.oneCell') = true by rw [vpV,List.all_toArray];exact List.all_eq_true.2 (zcz x pa qa pc qc))
   have HSO:=Lib.hid (show (Tryz.prog.info? 49).map (·.size) = some (opL x.op pa pc).length by rw [z14 HFX.out.d.ref.1];exact Tryz.sizeO)
   clear hx hxm q1 q2 q3 q4 q5
   go_wp2_with (first
    | (refine wpList_load_mid rfl 93 _ rfl g (k * 41) rfl (vpL x pa pc qa qc) _ HQ1.out Tryz.underlying93 rfl HSL.out ?_)
    | (refine z0b rfl 93 rfl vpZ Tryz.zeroVp ?_)
    | (refine z00 rfl 93 _ _ rfl rfl wi.heap.size vpZ.toArray (vpV x pa pc qa qc) 93 rfl rfl (heap_alloc_new wi _) HSV.out HSZ.out HSA.out ?_))
   intro w5 hcs hbs
   have hb5:Below wi.heap.size wi w5:=But.toBelow ((Below.refl _ wi).alloc (Nat.le_refl _) _) hbs.out (Nat.le_refl _) (by rw [World.size_alloc];exact Nat.le_succ _)
   have HC5:=Lib.hid (show Cells wi.heap.size 93 (vpV x pa pc qa qc) w5 from hcs.out)
   have HB5:=Lib.hid hb5
   obtain ⟨_,c0,c1,c2,_⟩:=vp_at HFX.out.d.ref.1 HC5.out
   have HKY:=Lib.hid (show x.op.d.key.length ≤ 1000 from Nat.le_trans HFX.out.d.key (by decide))
   have HVL:=Lib.hid (show x.op.d.val.length ≤ 1000 from Nat.le_trans HFX.out.d.val (by decide))
   obtain ⟨ky,hky⟩:∃ z,x.op.d.key = z:=⟨_,rfl⟩
   obtain ⟨vl,hvl⟩:∃ z,x.op.d.val = z:=⟨_,rfl⟩
   rw [hky] at c1 HKY
   rw [hvl] at c2 HVL
   have HBP:=Lib.hid (zei ky vl)
   have HSM2:=Lib.hid (show (Tryz.prog.info? 118).map (·.size) = some (#[.string ⟨ky.toArray⟩,.string ⟨vl.toArray⟩]:Array Value).size from Tryz.sizeMem)
   have HSZ2:=Lib.hid (show memZ.toArray.size = (#[.string ⟨ky.toArray⟩,.string ⟨vl.toArray⟩]:Array Value).size from rfl)
   have HSA2:=Lib.hid (show (#[.string ⟨ky.toArray⟩,.string ⟨vl.toArray⟩]:Array Value).all (·.oneCell') = true by rw [List.all_toArray];rfl)
   obtain ⟨g7,hg7⟩:∃ g,wi.heap.size = g:=⟨_,rfl⟩
   rw [hg7] at HC5 c0 c1 c2 ⊢
   clear hcs hbs hb5 hky hvl hg7
   go_wp2_with (first
    | (refine z0n rfl 118 _ rfl [(0,.string ⟨ky.toArray⟩),(1,.string ⟨vl.toArray⟩)] _ (by rw [List.map_toArray];rfl) HBP.out ?_)
    | (refine z0b rfl 118 rfl memZ HZM.out ?_)
    | (refine z00 rfl 118 _ _ rfl rfl w5.heap.size memZ.toArray #[.string ⟨ky.toArray⟩,.string ⟨vl.toArray⟩] 118 rfl rfl (heap_alloc_new w5 _) HSM2.out HSZ2.out HSA2.out ?_))
   intro w6 hc6 hb6
   have hb56:Below w5.heap.size w5 w6:=But.toBelow ((Below.refl _ w5).alloc (Nat.le_refl _) _) hb6.out (Nat.le_refl _) (by rw [World.size_alloc];exact Nat.le_succ _)
   have HC6:=Lib.hid (show Cells w5.heap.size 118 #[.string ⟨ky.toArray⟩,.string ⟨vl.toArray⟩] w6 from hc6.out)
   have HBI6:=Lib.hid (HB5.out.trans (hb56.mono HB5.out.size))
   have HC56:=Lib.hid (HC5.out.below hb56)
   obtain ⟨c8,c0,_,_,_⟩:=vp_at HFX.out.d.ref.1 HC56.out
   have HR8:=Lib.hid c8
   have HM6:=Lib.hid (HMI.out.below HBI6.out)
   have HB6:=Lib.hid (HBI.out.trans (HBI6.out.mono HBI.out.size))
   have HO6:=Lib.hid (HOI.out.below HBI6.out)
   have HCW:=Lib.hid (HKX.out w6 (HB6.out.mono HBW.out))
   obtain ⟨v,hv,hr⟩:=HM6.out.lookup Tryz.memKey MemV.reads Tryz.underlying116 zd0 ⟨ky,vl,HKY.out,HVL.out,rfl⟩
   obtain ⟨q,hq,rfl⟩:=NumB.of (Nat.succ_pos n) hv
   have HLK:=Lib.hid hr
   obtain ⟨g8,hg8⟩:∃ g,w5.heap.size = g:=⟨_,rfl⟩
   rw [hg8] at HC6 ⊢
   obtain ⟨kd,hkd⟩:∃ z,x.op.d.kind = z:=⟨_,rfl⟩
   rw [hkd] at c0
   obtain ⟨kx,hkx⟩:∃ z,K x.op = z:=⟨_,rfl⟩
   rw [hkx] at HCW
   clear hc6 hb6 hb56 c8 hv hr hq hg8 hkd hkx c1 c2 HC5 HMI HOI
   by_cases h2:kd = 2
   ·subst h2
    cases kx with
    | false =>
      go_wp2_with (first
       | (refine z1k (by rfl) 49 _ rfl g7 0 rfl (opL x.op pa pc) _ HR8.out Tryz.underlying49 rfl HSO.out ?_)
       | (refine z18 (by rfl) HFN.out HNM.out HBD.out (.tmp 33) _ _ rfl #[] caps rfl [.agg (opV x.op pa pc)] rfl HCW.out ?_;rintro e w7 ⟨rfl,hb7⟩;refine ⟨_,rfl,?_⟩;have HB7:=Lib.hid hb7;clear hb7))
      exact ⟨⟨k + 1,N,by go_num,by omega,by omega,HM6.out.below HB7.out,HB6.out.trans (HB7.out.mono HB6.out.size),HO6.out.below HB7.out⟩,by simp [intOf];omega⟩
    | true =>
      by_cases hq0:q = 0
      ·subst hq0
       go_wp2_with (first
        | (refine z1k (by rfl) 49 _ rfl g7 0 rfl (opL x.op pa pc) _ HR8.out Tryz.underlying49 rfl HSO.out ?_)
        | (refine z18 (by rfl) HFN.out HNM.out HBD.out (.tmp 33) _ _ rfl #[] caps rfl [.agg (opV x.op pa pc)] rfl HCW.out ?_;rintro e w7 ⟨rfl,hb7⟩;refine ⟨_,rfl,?_⟩;have HB7:=Lib.hid hb7;have HC7:=Lib.hid (HC6.out.below hb7);have HM7:=Lib.hid (HM6.out.below hb7);have HLK7:=Lib.hid (HLK.out w7 (hb7.block gm HM6.out.lt));clear hb7)
        | (refine z0m (by rfl) 118 _ rfl g8 #[.string ⟨ky.toArray⟩,.string ⟨vl.toArray⟩] 118 _ rfl HC7.out Tryz.underlying118 rfl HSM2.out ?_)
        | (refine z2g (by rfl) _ _ 116 rfl (.map (some gm)) (memV ky vl) (.int .i64 ((0:Nat):Int)) rfl rfl HLK7.out ?_)
        | (refine z98 rfl _ 116 118 3 rfl Tryz.underlying116 HM7.out rfl ?_)
        | (refine z63 rfl _ _ _ 116 118 3 rfl Tryz.memKey MemV.reads Tryz.underlying116 HM7.out (memV ky vl) (.int .i64 ((N + 1:Nat):Int)) ⟨ky,vl,HKY.out,HVL.out,rfl⟩ ⟨N + 1,by omega,rfl⟩ rfl rfl (by first | rfl | (show Value.int _ _ = _;congr 1;omega)) ?_))
       intro w9 N9 hm9 hN9 ho9
       have HM9:=Lib.hid hm9.out
       have HO9:=Lib.hid ho9.out
       clear hm9 ho9
       go_wp2_with fail
       have hb9:Below w.heap.size w w9:=Only.toBelow (HB6.out.trans (HB7.out.mono HB6.out.size)) HO9.out (fun b e=>by rw [e,HGM.out];exact Nat.le_refl _) (Nat.le_trans HB6.out.size HB7.out.size)
       exact ⟨⟨k + 1,N9,by go_num,by omega,by omega,HM9.out,hb9,(HO6.out.below HB7.out).only HO9.out (fun b e=>by rw [e,← HGM.out];exact HZZ.out)⟩,by simp [intOf];omega⟩
      ·have g1:((q:Int) == 0) = false:=by simpa using hq0
       have g2:(q == 0) = false:=by simpa using hq0
       go_wp2_with (first
        | (refine z1k (by rfl) 49 _ rfl g7 0 rfl (opL x.op pa pc) _ HR8.out Tryz.underlying49 rfl HSO.out ?_)
        | (refine z18 (by rfl) HFN.out HNM.out HBD.out (.tmp 33) _ _ rfl #[] caps rfl [.agg (opV x.op pa pc)] rfl HCW.out ?_;rintro e w7 ⟨rfl,hb7⟩;refine ⟨_,rfl,?_⟩;have HB7:=Lib.hid hb7;have HC7:=Lib.hid (HC6.out.below hb7);have HLK7:=Lib.hid (HLK.out w7 (hb7.block gm HM6.out.lt));clear hb7)
        | (refine z0m (by rfl) 118 _ rfl g8 #[.string ⟨ky.toArray⟩,.string ⟨vl.toArray⟩] 118 _ rfl HC7.out Tryz.underlying118 rfl HSM2.out ?_)
        | (refine z2g (by rfl) _ _ 116 rfl (.map (some gm)) (memV ky vl) (.int .i64 (q:Int)) rfl rfl HLK7.out ?_))
       exact ⟨⟨k + 1,N,by go_num,by omega,by omega,HM6.out.below HB7.out,HB6.out.trans (HB7.out.mono HB6.out.size),HO6.out.below HB7.out⟩,by simp [intOf];omega⟩
   ·have g1:(kd == 2) = false:=by simpa using h2
    go_wp2_with fail
    exact ⟨⟨k + 1,N,by go_num,by omega,by omega,HM6.out,HB6.out,HO6.out⟩,by simp [intOf];omega⟩
  ·obtain rfl:k = n:=by omega
   go_wp2_with fail
   go_loopw [52] (fun i wr=>∃ (t:Nat) (L':List VpN),i = .int .i64 t ∧ t ≤ k ∧ OwnQ B Z 93 (.slice ao k c) L' wr ∧ L'.map z3n = L.map z3n ∧ (∀ x ∈ L',x.num ≤ k) ∧ MapG MemV (NumB (k + 1)) gm N wr ∧ Below B w wr) (fun i _=>k - (intOf i).toNat)
   case atStart=>exact ⟨0,L,rfl,Nat.zero_le _,HOI.out,rfl,H0.out,HMI.out,HBI.out.mono HBW.out⟩
   case round =>
    clear HMI HBI HOI
    obtain ⟨wi,rfl⟩:∃ z,z = wr:=⟨_,rfl⟩
    obtain ⟨t,L',rfl,ht,ho,hs,h0,hm,hb⟩:=hrel
    have HMI:=Lib.hid hm
    have HBI:=Lib.hid hb
    have HOI:=Lib.hid ho
    have HSS:=Lib.hid hs
    have HH0:=Lib.hid h0
    have HLN:=Shut.mk (show L'.length = k by have:=congrArg List.length hs;rw [List.length_map,List.length_map,HNL.out] at this;exact this)
    clear hm hb ho hs h0
    by_cases hlt:t < k
    ·obtain ⟨x,hx⟩:∃ x,L'[t]? = some x:=⟨_,List.getElem?_eq_getElem (by rw [HLN.out];exact hlt)⟩
     have hxm:=List.mem_of_getElem? hx
     have HFX:=Lib.hid (show x.op.Fit from by
      obtain ⟨y,hy,he,_⟩:=zgw HSS.out hxm
      rw [← he]
      exact HF.out y hy)
     have HX:=Lib.hid hx
     obtain ⟨g,rfl,hgl⟩:∃ g,ao = some ⟨g,0,none⟩ ∧ g < Z:=by
      rcases HOI.out.formB with ⟨_,h2⟩ | ⟨g,c',h2,_,_,h3,_⟩
      ·have:=HLN.out;rw [h2] at this;simp at this;omega
      ·injection h2 with h4 _ _
       exact ⟨g,h4,h3⟩
     obtain ⟨hBg,_,pa,pc,qa,qc,q1,q2,q3,q4,q5⟩:=HOI.out.get hx
     have HBG:=Lib.hid hBg
     have HGL:=Lib.hid hgl
     have HQ1:=Lib.hid (show wi.rangeAt g (t * 41) (vpL x pa pc qa qc) by rw [Nat.mul_comm];exact q1)
     have HSL:=Lib.hid (show (Tryz.prog.info? 93).map (·.size) = some (vpL x pa pc qa qc).length by rw [z4o HFX.out.d.ref.1];exact Tryz.sizeVp)
     have HSV:=Lib.hid (show (Tryz.prog.info? 93).map (·.size) = some (vpV x pa pc qa qc).size by rw [vpV,List.size_toArray,z4o HFX.out.d.ref.1];exact Tryz.sizeVp)
     have HSZ:=Lib.hid (show vpZ.toArray.size = (vpV x pa pc qa qc).size by rw [vpV,List.size_toArray,List.size_toArray,z4o HFX.out.d.ref.1];rfl)
     have HSA:=Lib.hid (show (vpV x pa pc qa qc).all (·.oneCell') = true by rw [vpV,List.all_toArray];exact List.all_eq_true.2 (zcz x pa qa pc qc))
     have HGW:=Lib.hid (show g < wi.heap.size from (HOI.out.lt (g:=g) rfl).2)
     clear hx hxm q1 q2 q3 q4 q5 hBg hgl
     go_wp2_with (first
      | (refine wpList_load_mid rfl 93 _ rfl g (t * 41) rfl (vpL x pa pc qa qc) _ HQ1.out Tryz.underlying93 rfl HSL.out ?_)
      | (refine z0b rfl 93 rfl vpZ Tryz.zeroVp ?_)
      | (refine z00 rfl 93 _ _ rfl rfl wi.heap.size vpZ.toArray (vpV x pa pc qa qc) 93 rfl rfl (heap_alloc_new wi _) HSV.out HSZ.out HSA.out ?_))
     intro w5 hcs hbs
     have hb5:Below wi.heap.size wi w5:=But.toBelow ((Below.refl _ wi).alloc (Nat.le_refl _) _) hbs.out (Nat.le_refl _) (by rw [World.size_alloc];exact Nat.le_succ _)
     have HC5:=Lib.hid (show Cells wi.heap.size 93 (vpV x pa pc qa qc) w5 from hcs.out)
     obtain ⟨_,_,c1,c2,_⟩:=vp_at HFX.out.d.ref.1 HC5.out
     have HKY:=Lib.hid (show x.op.d.key.length ≤ 1000 from Nat.le_trans HFX.out.d.key (by decide))
     have HVL:=Lib.hid (show x.op.d.val.length ≤ 1000 from Nat.le_trans HFX.out.d.val (by decide))
     obtain ⟨ky,hky⟩:∃ z,x.op.d.key = z:=⟨_,rfl⟩
     obtain ⟨vl,hvl⟩:∃ z,x.op.d.val = z:=⟨_,rfl⟩
     rw [hky] at c1 HKY
     rw [hvl] at c2 HVL
     have HBP:=Lib.hid (zei ky vl)
     have hO5:=HOI.out.below hb5
     have c39:=(z9t HFX.out.d.ref.1 (z0c HQ1.out hb5 HGW.out)).2.2.1
     have f39:=hO5.frozen HLN.out.symm (t * 41 + 39)
     have HO5:=Lib.hid hO5
     have HM5:=Lib.hid (HMI.out.below hb5)
     have HB5:=Lib.hid (HBI.out.trans (hb5.mono (Nat.le_trans HBW.out HBI.out.size)))
     obtain ⟨v,hv,hr⟩:=HM5.out.lookup Tryz.memKey MemV.reads Tryz.underlying116 zd0 ⟨ky,vl,HKY.out,HVL.out,rfl⟩
     obtain ⟨q,hq,rfl⟩:=NumB.of (Nat.succ_pos k) hv
     have HLK:=Lib.hid (hr w5 rfl)
     have HQQ:=Lib.hid hq
     obtain ⟨g7,hg7⟩:∃ g,wi.heap.size = g:=⟨_,rfl⟩
     rw [hg7] at HC5 c1 c2 ⊢
     clear hcs hbs hb5 hky hvl hg7 hv hr hq hO5
     go_wp2_with (first
      | (refine z0n rfl 118 _ rfl [(0,.string ⟨ky.toArray⟩),(1,.string ⟨vl.toArray⟩)] _ (by rw [List.map_toArray];rfl) HBP.out ?_)
      | (refine z2g (by rfl) _ _ 116 rfl (.map (some gm)) (memV ky vl) (.int .i64 (q:Int)) rfl rfl HLK.out ?_))
     have hset:=HO5.out.setAt HLN.out.symm HX.out (j:=39) (by decide) (.int .i64 (q:Int)) (y:={ x with num:=q }) (fun pa pc qa qc=>zm2 x HFX.out.d.ref.1 q pa qa pc qc) rfl rfl
     rw [Nat.mul_comm] at hset
     have hbut:But g w5 (w5.setCell ⟨g,t * 41 + 39,none⟩ (.int .i64 (q:Int))):=(But.refl _ w5).setCell _ _
     refine ⟨⟨t + 1,L'.set t { x with num:=q },by go_num,by omega,hset,?_,?_,HM5.out.only ((Only.refl (fun b=>b = g) w5).but hbut (.inl rfl)) (fun e=>?_),But.toBelow HB5.out hbut HBG.out (Nat.le_trans HBW.out HB5.out.size)⟩,by simp [intOf];omega⟩
     ·exact (z9b (y:={ x with num:=q }) HX.out rfl).trans HSS.out
     ·intro z hz
      rcases List.mem_or_eq_of_mem_set hz with hz | rfl
      ·exact HH0.out z hz
      ·show q ≤ k
       have:=HQQ.out
       omega
     ·have h1:=HGL.out
      have h2:=HZZ.out
      have h3:=HGM.out
      omega
    ·obtain rfl:t = k:=by omega
     go_wp2_with (refine z98 rfl _ 116 118 3 rfl Tryz.underlying116 HMI.out rfl ?_)
     go_ret
     exact ⟨N,L',rfl,hNk,HOI.out,HSS.out,HH0.out,HBI.out⟩
end Go.Proofs.YtjomgkiphecljaaGreatDoor
namespace Go.Proofs.YtjomgkiphecljaaGreatDoor
open Go.RowKit Go.BigFrame
theorem vw_bit (i:Int) (w:World):Calls Tryz.prog 76 #[.int .i64 i] w fun e w'=>(∃ z:Nat,z < 18446744073709551616 ∧ e = .returned (.int .u64 (z:Int))) ∧ Below w.heap.size w w':=by
 by_cases h0:i < 0
 ·have g0:decide (i < 0) = true:=decide_eq_true h0
  go_enter Tryz.func76,Tryz.ntmps76
  go_wp2_with fail
  go_ret
  exact ⟨⟨0,by decide,rfl⟩,Below.refl _ _⟩
 ·have g0:decide (i < 0) = false:=decide_eq_false h0
  by_cases h1:64 ≤ i
  ·have g1:decide (64 ≤ i) = true:=decide_eq_true h1
   go_enter Tryz.func76,Tryz.ntmps76
   go_wp2_with fail
   go_ret
   exact ⟨⟨0,by decide,rfl⟩,Below.refl _ _⟩
  ·have g1:decide (64 ≤ i) = false:=decide_eq_false h1
   go_enter Tryz.func76,Tryz.ntmps76
   go_wp2_with fail
   go_ret
   refine ⟨⟨(2 ^ i.toNat % 18446744073709551616:Nat),Nat.mod_lt _ (by decide),?_⟩,Below.refl _ _⟩
   show Ending.returned (Value.int IntKind.u64 (IntKind.u64.wrap (2 ^ i.toNat))) = _
   rw [IntKind.wrap_u64]
   simp
open Go.Sort Go.Shelf
def z3t (x:VpN):OpN × List Nat × Nat:=(x.op,x.pr,x.num)
theorem zax {L L':List VpN} (h:L'.map z3t = L.map z3t) {x:VpN} (hx:x ∈ L'):∃ y ∈ L,y.op = x.op ∧ y.pr = x.pr ∧ y.num = x.num:=by
 have:z3t x ∈ L.map z3t:=h ▸ List.mem_map.2 ⟨x,hx,rfl⟩
 obtain ⟨y,hy,he⟩:=List.mem_map.1 this
 simp only [z3t,Prod.mk.injEq] at he
 exact ⟨y,hy,he.1,he.2.1,he.2.2⟩
def Wd (D:List Nat):Prop:=∀ d ∈ D,d < 18446744073709551616
theorem Wd.getD {D:List Nat} (h:Wd D) (i:Nat):D.getD i 0 < 18446744073709551616:=by
 rw [List.getD_eq_getElem?_getD]
 cases he:D[i]? with
 | none=>decide
 | some d=>exact h d (List.mem_of_getElem? he)
theorem Wd.set {D:List Nat} (h:Wd D) (i:Nat) {z:Nat} (hz:z < 18446744073709551616):Wd (D.set i z):=fun d hd=>by
 rcases List.mem_or_eq_of_mem_set hd with hd | rfl
 ·exact h d hd
 ·exact hz
theorem zky {a b:Nat} (ha:a < 18446744073709551616) (hb:b < 18446744073709551616):a ||| b < 18446744073709551616:=Nat.or_lt_two_pow (n:=64) ha hb
structure Quiet (L L':List VpN) (D:List Nat):Prop where
 same:L' = L
 zero:∀ (j:Nat) (x:VpN),L[j]? = some x → x.op.d.kind ≠ 2 → D.getD j 0 = 0
theorem zev {D:List Nat} {i j z:Nat} (h:i ≠ j):(D.set i z).getD j 0 = D.getD j 0:=by
 rw [List.getD_eq_getElem?_getD,List.getElem?_set_ne h,List.getD_eq_getElem?_getD]
theorem set_same {α:Type} {L:List α} {i:Nat} {x:α} (h:L[i]? = some x):L.set i x = L:=by
 refine List.ext_getElem? fun j=>?_
 by_cases hij:i = j
 ·subst hij
  rw [List.getElem?_set_self (List.getElem?_eq_some_iff.1 h).1,h]
 ·rw [List.getElem?_set_ne hij]
theorem vw_sweep (B Z:Nat) (L:List VpN) (ao:Option Addr) (n c fs:Nat) (w:World) (h:OwnQ B Z 93 (.slice ao n c) L w) (hn:L.length = n) (hBZ:B ≤ Z) (hZ:Z ≤ w.heap.size) (hF:∀ x ∈ L,x.op.Fit) (h0:∀ x ∈ L,x.num ≤ n) (hp:∀ x ∈ L,x.pr.length ≤ 1000 ∧ ∀ p ∈ x.pr,p < n) (hl:n ≤ 1000) (hfs:fs ≤ 1000) :
 Calls Tryz.prog 53 #[.slice ao n c,.int .i64 (fs:Int)] w fun e w'=>e = .returned (.tuple #[]) ∧ ∃ L':List VpN,OwnQ B Z 93 (.slice ao n c) L' w' ∧ L'.map z3t = L.map z3t ∧ ((∀ x ∈ L,x.pr = []) → L' = L) ∧ Below B w w':=by
 have HF:=Lib.hid hF
 have H0:=Lib.hid h0
 have HPP:=Lib.hid hp
 have HNL:=Shut.mk hn
 have HBW:=Lib.hid (show B ≤ w.heap.size by omega)
 have HZZ:=Lib.hid hZ
 obtain ⟨i0,hi,hz0,hz1,hz2⟩:=info_parts Tryz.infoU64
 have HIF:=Lib.hid hi
 have HZ0:=Lib.hid hz0
 have HZ1:=Lib.hid hz1
 have HZ2:=Lib.hid hz2
 have HOW:=Lib.hid h
 clear h hn hBZ hZ hF h0 hp hi hz0 hz1 hz2
 go_enter Tryz.func53,Tryz.ntmps53
 go_wp2_with (at_make;refine wpList_make_full _ rfl _ _ 119 rfl w.heap.size 121 i0 _ 1 Tryz.underlying119 HIF.out HZ0.out HZ1.out .i64 .i64 _ _ n rfl rfl rfl rfl (by rw [HZ2.out];omega) (by unfold maxLen;omega) (Nat.le_refl _) ?_)
 intro w1 ho1 hg1
 have HD1:=Lib.hid (Blk.made ho1)
 have hb1:=(Below.refl w.heap.size w).grown hg1 (Nat.le_refl _) (fun k hk=>by cases hk)
 have HB1:=Lib.hid (hb1.mono HBW.out)
 have HO1:=Lib.hid (HOW.out.below hb1)
 have HGD:=Lib.hid (show Z ≤ w.heap.size ∧ B ≤ w.heap.size from ⟨HZZ.out,HBW.out⟩)
 have HWZ:=Lib.hid hb1.size
 obtain ⟨gd,hgd⟩:∃ g,w.heap.size = g:=⟨_,rfl⟩
 rw [hgd] at HD1 HGD HWZ ⊢
 clear ho1 hg1 hb1 hgd HOW
 go_wp2_with fail
 go_loopw [5] (fun i wr=>∃ (k:Nat) (z:Int) (L':List VpN) (D:List Nat),i = .int .i64 z ∧ z = (k:Int) - 1 ∧ k ≤ n ∧ OwnQ B Z 93 (.slice ao n c) L' wr ∧ L'.map z3t = L.map z3t ∧ Blk gd 121 .u64 D wr ∧ D.length = n ∧ Wd D ∧ ((∀ x ∈ L,x.pr = []) → Quiet L L' D) ∧ Below B w wr) (fun i _=>(intOf i + 1).toNat)
 case atStart=>exact ⟨n,_,L,List.replicate n 0,rfl,rfl,Nat.le_refl _,HO1.out,rfl,HD1.out,List.length_replicate,(fun d hd=>by rw [(List.mem_replicate.1 hd).2];decide),(fun _=>⟨rfl,fun j x _ _=>by
  rw [List.getD_eq_getElem?_getD,List.getElem?_replicate]
  split <;> rfl⟩),HB1.out⟩
 case round =>
  clear HO1 HD1 HB1
  obtain ⟨wi,rfl⟩:∃ z,z = wr:=⟨_,rfl⟩
  obtain ⟨k,z,L',D,rfl,hz,hk,ho,hs,hd,hdl,hw,hq,hb⟩:=hrel
  have HOI:=Lib.hid ho
  have HSS:=Shut.mk hs
  have HDI:=Lib.hid hd
  have HDL:=Shut.mk hdl
  have HWD:=Lib.hid hw
  have HQI:=Lib.hid hq
  have HBI:=Lib.hid hb
  have HLN:=Shut.mk (show L'.length = n by have:=congrArg List.length hs;rw [List.length_map,List.length_map,HNL.out] at this;exact this)
  clear ho hs hd hdl hw hq hb
  cases k with
  | zero =>
    have g0:decide (0 ≤ z) = false:=decide_eq_false (by omega)
    have g1:z < 0:=by omega
    clear hz
    go_wp2_with fail
    refine bodyPost_end (results_none rfl _ _ _) rfl ?_
    exact ⟨rfl,L',HOI.out,HSS.out,fun q=>(HQI.out q).same,HBI.out⟩
  | succ k =>
    obtain rfl:z = (k:Int):=by omega
    clear hz
    have hlt:k < n:=hk
    obtain ⟨x,hx⟩:∃ x,L'[k]? = some x:=⟨_,List.getElem?_eq_getElem (by rw [HLN.out];exact hlt)⟩
    obtain ⟨y,hy,he1,he2,he3⟩:=zax HSS.out (List.mem_of_getElem? hx)
    have HFX:=Lib.hid (show x.op.Fit from he1 ▸ HF.out y hy)
    have HPX:=Lib.hid (show x.pr.length ≤ 1000 ∧ ∀ p ∈ x.pr,p < n from he2 ▸ HPP.out y hy)
    have hnx:x.num ≤ n:=he3 ▸ H0.out y hy
    have HX:=Shut.mk hx
    obtain ⟨g,rfl,hgl⟩:∃ g,ao = some ⟨g,0,none⟩ ∧ g < Z:=by
     rcases HOI.out.formB with ⟨_,h2⟩ | ⟨g,c',h2,_,_,h3,_⟩
     ·have:=HLN.out;rw [h2] at this;simp at this;omega
     ·injection h2 with h4 _ _
      exact ⟨g,h4,h3⟩
    obtain ⟨hBg,_,pa,pc,qa,qc,q1,q2,q3,q4,q5⟩:=HOI.out.get hx
    have HBG:=Lib.hid hBg
    have HGL:=Lib.hid hgl
    have hq1:wi.rangeAt g (k * 41) (vpL x pa pc qa qc):=by rw [Nat.mul_comm];exact q1
    obtain ⟨r1,c38,c39,c40⟩:=z9t HFX.out.d.ref.1 hq1
    have HR1:=Lib.hid r1
    have c0:wi.cell? ⟨g,k * 41,none⟩ = some (.int .i64 x.op.d.kind):=r1 0 _ rfl
    have HC0:=Lib.hid c0
    have HC38:=Lib.hid c38
    have HC40:=Lib.hid c40
    have HQ3:=Lib.hid q3
    have HGW:=Lib.hid (show g < wi.heap.size from (HOI.out.lt (g:=g) rfl).2)
    have HBT:=Lib.hid (vw_bit ((x.num:Int) - (fs:Int)) wi)
    obtain ⟨nm,hnm⟩:∃ z,x.num = z:=⟨_,rfl⟩
    rw [hnm] at c39 hnx HBT
    clear hx hy he1 he2 he3 hBg hgl hq1 q1 q2 q3 q4 q5 r1 c38 c40 c0 hnm
    go_wp2_with fail
    refine HBT.out.mono ?_
    rintro e w5 ⟨⟨bt,hbt,rfl⟩,hb5⟩
    have HBZ:=Lib.hid hbt
    have HB5:=Lib.hid (HBI.out.trans (hb5.mono (Nat.le_trans HBW.out HBI.out.size)))
    have hO5:=HOI.out.below hb5
    have hD5:=HDI.out.below hb5
    have c0:=(hb5.cell (p:=⟨g,k * 41,none⟩) HGW.out).trans HC0.out
    have c40:=(hb5.cell (p:=⟨g,k * 41 + 40,none⟩) HGW.out).trans HC40.out
    have f40:=hO5.frozen HLN.out.symm (k * 41 + 40)
    have HC38:=Lib.hid ((hb5.cell (p:=⟨g,k * 41 + 38,none⟩) HGW.out).trans HC38.out)
    have HQ3:=Lib.hid (HQ3.out.only (Only.of (O:=fun _=>False) hb5) (fun _ _ _=>id))
    have cd:=hD5.cell k (by rw [HDL.out];exact hlt)
    have fd:=hD5.frozen k
    have HO5:=Lib.hid hO5
    have HD5:=Lib.hid hD5
    obtain ⟨d,hd⟩:∃ d,D.getD k 0 = d:=⟨_,rfl⟩
    have hdl:=HWD.out.getD k
    rw [hd] at cd hdl
    have HDD:=Shut.mk hd
    have hand:=u64_and_nat d bt hdl hbt
    have hor:=u64_or_nat d bt hdl hbt
    have HOL:=Lib.hid (zky hdl hbt)
    obtain ⟨kd,hkd⟩:∃ z,x.op.d.kind = z:=⟨_,rfl⟩
    rw [hkd] at c0
    have HKD:=Shut.mk hkd
    obtain ⟨db,hdb⟩:∃ z,x.dr = z:=⟨_,rfl⟩
    rw [hdb] at c40
    have HDB:=Shut.mk hdb
    clear hbt hb5 hO5 hD5 hd hdl hkd hdb c39 HBT
    obtain ⟨R,hR⟩:∃ R:World → Prop,R = fun wx=>∃ (L2:List VpN) (D2:List Nat),OwnQ B Z 93 (.slice (some ⟨g,0,none⟩) n c) L2 wx ∧ L2.map z3t = L.map z3t ∧ Blk gd 121 .u64 D2 wx ∧ D2.length = n ∧ Wd D2 ∧ ((∀ x ∈ L,x.pr = []) → Quiet L L2 D2) ∧ Below B w5 wx:=⟨_,rfl⟩
    have hgg:gd ≠ g:=fun e=>by
     have:=HGL.out
     have:=HGD.out
     omega
    have HR1':=Lib.hid (show ∀ b:Bool,((∀ x ∈ L,x.pr = []) → b = x.dr) → R (w5.setCell ⟨g,k * 41 + 40,none⟩ (.bool b)) from fun b hb=>by
     rw [hR]
     have hset:=HO5.out.setAt HLN.out.symm HX.out (j:=40) (by decide) (.bool b) (y:={ x with dr:=b }) (fun pa pc qa qc=>vp_setDr x HFX.out.d.ref.1 b pa qa pc qc) rfl rfl
     rw [Nat.mul_comm] at hset
     have hbut:But g w5 (w5.setCell ⟨g,k * 41 + 40,none⟩ (.bool b)):=(But.refl _ w5).setCell _ _
     refine ⟨_,D,hset,(z9b (y:={ x with dr:=b }) HX.out rfl).trans HSS.out,HD5.out.but hbut hgg,HDL.out,HWD.out,fun q=>⟨?_,(HQI.out q).zero⟩,But.toBelow (Below.refl B w5) hbut HBG.out (Nat.le_trans HBW.out HB5.out.size)⟩
     have h1:=hb q
     subst h1
     exact (set_same HX.out).trans (HQI.out q).same)
    have HR2':=Lib.hid (show kd = 2 → R (w5.setCell ⟨gd,k,none⟩ (.int .u64 ((d ||| bt:Nat):Int))) from fun h2=>by
     rw [hR]
     have hbut:But gd w5 (w5.setCell ⟨gd,k,none⟩ (.int .u64 ((d ||| bt:Nat):Int))):=(But.refl _ w5).setCell _ _
     refine ⟨L',D.set k (d ||| bt),HO5.out.but hbut HGD.out.1,HSS.out,HD5.out.set k _,by rw [List.length_set];exact HDL.out,HWD.out.set k HOL.out,fun q=>⟨(HQI.out q).same,fun j y hj hy=>?_⟩,But.toBelow (Below.refl B w5) hbut HGD.out.2 (Nat.le_trans HBW.out HB5.out.size)⟩
     have hjk:k ≠ j:=fun e=>by
      subst e
      rw [← (HQI.out q).same,HX.out] at hj
      cases hj
      exact hy (HKD.out.trans h2)
     rw [zev hjk]
     exact (HQI.out q).zero j y hj hy)
    have HR3':=Lib.hid (show R w5 from by
     rw [hR]
     exact ⟨L',D,HO5.out,HSS.out,HD5.out,HDL.out,HWD.out,HQI.out,Below.refl _ _⟩)
    have HZD:=Lib.hid (show (∀ x ∈ L,x.pr = []) → kd ≠ 2 → d = 0 from fun q h2=>by
     rw [← HDD.out]
     have h3:=HX.out
     rw [(HQI.out q).same] at h3
     exact (HQI.out q).zero k x h3 (by rw [HKD.out];exact h2))
    have HRR:=Shut.mk hR
    clear hR hgg
    go_upto_block 2 with (fail)
    go_cut [] from 36 to 62 (fun wx=>R wx)
    case first =>
     by_cases h1:kd = 1
     ·subst h1
      cases db with
      | true =>
        go_wp2_with fail
        go_meet
        case rel=>exact HR1'.out true (fun _=>HDB.out.symm)
      | false =>
        obtain ⟨a,ha⟩:∃ a,d &&& bt = a:=⟨_,rfl⟩
        rw [ha] at hand
        have HAA:=Shut.mk ha
        clear ha
        by_cases ha:a = 0
        ·subst ha
         go_wp2_with fail
         go_meet
         case rel=>exact HR1'.out false (fun _=>HDB.out.symm)
        ·have g1:((a:Int) == 0) = false:=by simpa using ha
         have g2:(a == 0) = false:=by simpa using ha
         have g3:((a:Int) != 0) = true:=by simpa using ha
         go_wp2_with fail
         go_meet
         case rel =>
          refine HR1'.out true (fun q=>?_)
          exfalso
          apply ha
          rw [← HAA.out,HZD.out q (by decide)]
          simp
     ·have g1:(kd == 1) = false:=by simpa using h1
      by_cases h2:kd = 2
      ·subst h2
       go_wp2_with fail
       go_meet
       case rel=>exact HR2'.out (by first | rfl | trivial)
      ·have g2:(kd == 2) = false:=by simpa using h2
       go_wp2_with fail
       go_meet
       case rel=>exact HR3'.out
    case rest =>
     rw [HRR.out] at hcut
     clear HR1' HR2' HR3' HRR HZD hand hor HOL c0 c40 f40 cd fd HX HDI HQI HOI HSS HDL HWD HD5 HO5 HDD HKD HDB HLN HPX HFX HC0 HC40 HC38 HQ3 HR1
     obtain ⟨L2,D2,ho,hs,hd,hdl,hw,hq,hb⟩:=hcut
     have HBX:=Lib.hid (HB5.out.trans hb)
     have HLN:=Shut.mk (show L2.length = n by have:=congrArg List.length hs;rw [List.length_map,List.length_map,HNL.out] at this;exact this)
     obtain ⟨x2,hx⟩:∃ x,L2[k]? = some x:=⟨_,List.getElem?_eq_getElem (by rw [HLN.out];exact hlt)⟩
     obtain ⟨y,hy,he1,he2,he3⟩:=zax hs (List.mem_of_getElem? hx)
     have HPX:=Lib.hid (show x2.pr.length ≤ 1000 ∧ ∀ p ∈ x2.pr,p < n from he2 ▸ HPP.out y hy)
     have HP0:=Lib.hid (show (∀ x ∈ L,x.pr = []) → x2.pr = [] from fun q=>he2 ▸ q y hy)
     have hfr:x2.op.d.ref.length = 32:=he1 ▸ (HF.out y hy).d.ref.1
     obtain ⟨_,_,pa2,pc2,qa2,qc2,q1,q2,q3,q4,q5⟩:=ho.get hx
     rw [Nat.mul_comm] at q1
     have c38:=(z9t hfr q1).2.1
     have HPR:=Lib.hid q3
     have HPZ:=Lib.hid (show ∀ a,qa2 = some a → x2.pr ≠ [] → a.block ≠ gd from fun a ha h0 e=>by
      have h1:=(q5 a ha h0).2
      have h2:=HGD.out.1
      omega)
     have HSS:=Shut.mk hs
     have HO:=Lib.hid ho
     have HQ:=Lib.hid hq
     have HD2:=Lib.hid hd
     have HDL2:=Lib.hid hdl
     have HW2:=Lib.hid hw
     obtain ⟨m,hm⟩:∃ m,x2.pr.length = m:=⟨_,rfl⟩
     have HM:=Shut.mk hm
     have hm1:m ≤ 1000:=hm ▸ HPX.out.1
     rw [hm] at c38
     clear hx hy he1 he2 he3 hfr q1 q2 q3 q4 q5 hs ho hq hb hd hdl hw hm
     go_wp2_with fail
     go_loopw [68] (fun i wr=>∃ (j:Nat) (D3:List Nat),i = .int .i64 j ∧ j ≤ m ∧ Blk gd 121 .u64 D3 wr ∧ D3.length = n ∧ Wd D3 ∧ (x2.pr = [] → D3 = D2) ∧ Only (fun b=>b = gd) wc wr) (fun i _=>m - (intOf i).toNat)
     case atStart=>exact ⟨0,D2,rfl,Nat.zero_le _,HD2.out,HDL2.out,HW2.out,fun _=>rfl,Only.refl _ _⟩
     case round =>
      obtain ⟨wj,rfl⟩:∃ z,z = wr:=⟨_,rfl⟩
      obtain ⟨j,D3,rfl,hj,hd,hdl,hw,hq,ho⟩:=hrel
      have HD3:=Lib.hid hd
      have HDL3:=Lib.hid hdl
      have HW3:=Lib.hid hw
      have HQ3:=Lib.hid hq
      have HO3:=Lib.hid ho
      clear hd hdl hw hq ho
      by_cases hlt2:j < m
      ·have h0:x2.pr ≠ []:=fun e=>by have:=HM.out;rw [e] at this;simp at this;omega
       obtain ⟨gq,rfl,_,hcell⟩:=(HPR.out.only HO3.out (fun a ha h0 e=>HPZ.out a ha h0 e)).resolve_left h0
       have cj:=hcell j (by rw [HM.out];exact hlt2)
       have hpn:x2.pr.getD j 0 < n:=by
        rw [List.getD_eq_getElem?_getD,List.getElem?_eq_getElem (by rw [HM.out];exact hlt2)]
        exact HPX.out.2 _ (List.getElem_mem _)
       obtain ⟨p,hp⟩:∃ p,x2.pr.getD j 0 = p:=⟨_,rfl⟩
       rw [hp] at cj hpn
       have H00:=Shut.mk h0
       clear hp hcell h0
       have hpi:(p:Int) < (n:Int):=by omega
       have hki:(k:Int) < (n:Int):=by omega
       have cp:=HD3.out.cell p (by rw [HDL3.out];exact hpn)
       have ck:=HD3.out.cell k (by rw [HDL3.out];exact hlt)
       have fp:=HD3.out.frozen p
       have d1l:=HW3.out.getD p
       have d2l:=HW3.out.getD k
       obtain ⟨d1,hd1⟩:∃ z,D3.getD p 0 = z:=⟨_,rfl⟩
       obtain ⟨d2,hd2⟩:∃ z,D3.getD k 0 = z:=⟨_,rfl⟩
       rw [hd1] at cp d1l
       rw [hd2] at ck d2l
       have hor2:=u64_or_nat d1 d2 d1l d2l
       have HOL2:=Lib.hid (zky d1l d2l)
       obtain ⟨dz,hdz⟩:∃ z,d1 ||| d2 = z:=⟨_,rfl⟩
       rw [hdz] at hor2 HOL2
       clear hd1 hd2 d1l d2l hdz
       go_wp2_with fail
       obtain ⟨w9,hw9⟩:∃ x,x = wj.drew:=⟨_,rfl⟩
       refine wp_region_still_tail 10 (by kernel_rfl) (by kernel_rfl) ?_
       simp only [zC,zD,zE,zF]
       change wpStill _ _ wj.drew (fun a'=>wpList _ _ _ _ a' wj.drew) _ _
       rw [← hw9]
       replace cp:w9.cell? ⟨gd,p,none⟩ = some (.int .u64 (d1:Int)):=by rw [hw9];exact cp
       replace ck:w9.cell? ⟨gd,k,none⟩ = some (.int .u64 (d2:Int)):=by rw [hw9];exact ck
       replace fp:w9.frozen? ⟨gd,p,none⟩ = false:=by rw [hw9];exact fp
       have HD9:=Lib.hid (show Blk gd 121 .u64 D3 w9 by rw [hw9];exact HD3.out)
       have HO9:=Lib.hid (show Only (fun b=>b = gd) wc w9 by rw [hw9];exact HO3.out.below (Below.refl _ _).drew)
       clear hw9 HD3 HO3 cj
       repeat still_step
       refine wpStill_nil ?_
       go_wp2_with fail
       exact ⟨⟨j + 1,D3.set p dz,by go_num,by omega,HD9.out.set p dz,by rw [List.length_set];exact HDL3.out,HW3.out.set p HOL2.out,(fun e=>absurd e H00.out),HO9.out.setCell p _ (.inl rfl)⟩,by simp [intOf];omega⟩
      ·obtain rfl:j = m:=by omega
       go_wp2_with fail
       refine ⟨⟨k,_,L2,D3,rfl,rfl,by omega,HO.out.only HO3.out (fun b e=>by rw [e];exact HGD.out.1),HSS.out,HD3.out,HDL3.out,HW3.out,fun q=>?_,Only.toBelow HBX.out HO3.out (fun b e=>by rw [e];exact HGD.out.2) (Nat.le_trans HBW.out HBX.out.size)⟩,by simp [intOf]⟩
       have h1:=HQ.out q
       rw [HQ3.out (HP0.out q)]
       exact h1
end Go.Proofs.YtjomgkiphecljaaGreatDoor
