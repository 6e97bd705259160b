/-
  The law LineDepths: for every input it answers true, and its arguments read as they did. Condition: the round constants' table lies as the program's text lays it (the card ties it).
-/
import Derived.Deep.MidRow
import Derived.Deep.Slices
import Derived.Great.BuildSlice
import Derived.Laws.StructEq
import Derived.OpenShut
import Derived.Test.YtnbldbbbibpobaaGreatDoorJ01
import Derived.Test.YtnbldbbbibpobaaGreatDoorJ02
import Derived.Test.YtnbldbbbibpobaaGreatDoorJ03
import Derived.Test.YtnbldbbbibpobaaGreatDoorJ04
import Derived.Test.YtnbldbbbibpobaaGreatDoorJ05
import Derived.Test.YtnbldbbbibpobaaGreatDoorJ06
import Derived.Test.YtnbldbbbibpobaaGreatDoorJ07
import Derived.Test.YtnbldbbbibpobaaGreatDoorJ08
import Derived.Test.YtnbldbbbibpobaaGreatDoorJ09
import Derived.Test.YtnbldbbbibpobaaGreatDoorJ10
import Derived.Test.YtnbldbbbibpobaaGreatDoorJ11
import Derived.Test.YtnbldbbbibpobaaGreatDoorJ12
import Derived.Test.YtnbldbbbibpobaaGreatDoorJ13
import Derived.Test.YtnbldbbbibpobaaGreatDoorJ14
import Derived.Test.YtnbldbbbibpobaaGreatDoorJ15
import Derived.Test.YtnbldbbbibpobaaGreatDoorJ16
import Derived.Test.YtnbldbbbibpobaaGreatDoorJ17
import Derived.Test.YtnbldbbbibpobaaGreatDoorJ18
import Derived.Test.YtnbldbbbibpobaaGreatDoorJ19
import Derived.Test.YtnbldbbbibpobaaGreatDoorJ20
import Derived.Test.YtnbldbbbibpobaaGreatDoorJ21
import Derived.Test.YtnbldbbbibpobaaGreatDoorJ22
import Derived.Test.YtnbldbbbibpobaaGreatDoorJ23
import Derived.Test.YtnbldbbbibpobaaGreatDoorJ24
import Derived.Test.YtnbldbbbibpobaaGreatDoorJ25
import Derived.Test.YtnbldbbbibpobaaGreatDoorJ26
set_option maxRecDepth 100000
set_option maxHeartbeats 20000000
namespace Go.Proofs.YtnbldbbbibpobaaGreatDoor
open Go.RowKit Go.ChangeShapes Go.WideShapes
theorem Ids.zeros (n:Nat):Ids (List.replicate n (List.replicate 32 0)):=fun z hz=>by
 obtain rfl:=(List.mem_replicate.1 hz).2
 exact ⟨rfl,by decide⟩
theorem z4x (n:Nat):z1o (List.replicate n (List.replicate 32 0)) = List.replicate (n * 32) (.int .u8 0):=by
 induction n with
 | zero=>rfl
 | succ n ih =>
   rw [List.replicate_succ,z1o,List.flatMap_cons]
   rw [show z07 .u8 (List.replicate 32 0) = List.replicate 32 (.int .u8 0) from rfl]
   have ih':List.flatMap (z07 .u8) (List.replicate n (List.replicate 32 0)) = List.replicate (n * 32) (.int .u8 0):=ih
   rw [ih',List.replicate_append_replicate]
   congr 1
   omega
theorem z3y (n:Nat):(madeCells (Value.agg (z07 .u8 (List.replicate 32 0)).toArray).cells (n * 32)).toList = z1o (List.replicate n (List.replicate 32 0)):=by
 rw [z4x]
 refine List.ext_getElem (by simp [madeCells]) fun j h1 h2=>?_
 have hz:(Value.agg (z07 .u8 (List.replicate 32 0)).toArray).cells = Array.replicate 32 (.int .u8 0):=rfl
 simp only [madeCells,hz,Array.getElem_toList,Array.getElem_map,Array.getElem_range,List.getElem_replicate,Array.size_replicate]
 have hj:j % 32 < 32:=Nat.mod_lt _ (by decide)
 rw [getElem!_pos _ _ (by simpa using hj),Array.getElem_replicate]
theorem OwnI.made {B g n:Nat} {e:TypeId} {w:World} (h:w.ownsRow B e 32 (.slice (some ⟨g,0,none⟩) n n) n (madeCells (Value.agg (z07 .u8 (List.replicate 32 0)).toArray).cells (n * 32)).toList) :
 OwnI B e (.slice (some ⟨g,0,none⟩) n n) (List.replicate n (List.replicate 32 0)) w:=by
 unfold OwnI
 rw [List.length_replicate,← z3y]
 exact h
end Go.Proofs.YtnbldbbbibpobaaGreatDoor
namespace Go.Proofs.YtnbldbbbibpobaaGreatDoor
open Go.RowKit
theorem z2m {P:Program} {o:Oper} {a:Act} {C:World → Prop} {K:Act → Prop} (op:BinOp) (t u:TypeId) (x y:Operand) (ho:o.op = .binOp op t x y u) (vx vy r:Value) (hx:a.eval x = vx) (hy:a.eval y = vy)
 (hg:∀ w,(eqGuard op t x y vx vy).run P w = .ok () w) (hr:∀ w,(binOp op t vx vy).run P w = .ok r w) (hk:K (a.put o.dst r)):o.quiet P a C K:=by
 refine ⟨_,fun w hw=>?_,hk⟩
 unfold Oper.quietAt execOp
 simp only [ho,hx,hy,Sem.run_bind,Sem.run_pure,hg,hr,Result.andThen_ok]
 exact ⟨rfl,rfl⟩
open Go.BigFrame
theorem OpAt.below {b o:Nat} {x:OpN} {w w':World} (h:OpAt b o x w) (hb:Below w.heap.size w w') (hlt:b < w.heap.size):OpAt b o x w':=by
 obtain ⟨pa,pc,h1,h2⟩:=h
 exact ⟨pa,pc,z08 h1 hb hlt,h2.below hb⟩
theorem OpsAt.below {ao:Option Addr} {L:List OpN} {w w':World} (h:OpsAt ao L w) (hb:Below w.heap.size w w'):OpsAt ao L w':=by
 rcases h with h | ⟨b,o,h1,h2,h3⟩
 ·exact .inl h
 ·exact .inr ⟨b,o,h1,Nat.lt_of_lt_of_le h2 hb.size,fun i x hx=>(h3 i x hx).below hb h2⟩
theorem OwnO.form {B:Nat} {e:TypeId} {v:Value} {L:List OpN} {w:World} (h:OwnO B e v L w):∃ ao cap,v = .slice ao L.length cap:=by
 obtain ⟨C,h,_⟩:=h
 rcases h.2 with ⟨hv,h0⟩ | ⟨g,cap,cur,hv,_⟩
 ·exact ⟨none,0,by rw [hv,h0]⟩
 ·exact ⟨some ⟨g,0,none⟩,cap,hv⟩
end Go.Proofs.YtnbldbbbibpobaaGreatDoor
namespace Go.Proofs.YtnbldbbbibpobaaGreatDoor
open Go.RowKit
theorem zh8 {L:List OpN} (h:Rows L) {i j:Nat} {a b:OpN} (ha:L[i]? = some a) (hb:L[j]? = some b) (hij:i < j):z9r a b = true:=by
 obtain ⟨hi,rfl⟩:=List.getElem?_eq_some_iff.1 ha
 obtain ⟨hj,rfl⟩:=List.getElem?_eq_some_iff.1 hb
 exact List.pairwise_iff_getElem.1 h i j hi hj hij
open Go.BigFrame
theorem z6k {L:List (List Nat)} {k m:Nat} (hm:L.length = m) (h:k < m):(L.take k ++ List.replicate (m - k) (List.replicate 32 0)).set k (L.getD k []) = L.take (k + 1) ++ List.replicate (m - (k + 1)) (List.replicate 32 0):=by
 have hl:(L.take k).length = k:=by rw [List.length_take];omega
 rw [List.set_append_right _ _ (by omega),hl,Nat.sub_self,show m - k = (m - (k + 1)) + 1 by omega,List.replicate_succ,List.set_cons_zero,List.take_succ_eq_append_getElem (by omega),List.append_assoc,List.getD_eq_getElem?_getD,List.getElem?_eq_getElem (by omega)]
 rfl
theorem z7e (X:Nat → Prop) (B:Bs) (T:Ents) (s:DagN) (hs:List (List Nat)) (M:Bh) (w:World) (h:SetAt X B T s hs M w) (hn:s.names.Nodup) (ht:Tame s) :
 Calls Tryz.prog 31 #[.pointer (some ⟨B.gs,0,none⟩)] w fun e w'=>∃ v,e = .returned v ∧ OwnI w.heap.size 25 v ((z2g s.ops).map z00) w' ∧ Below w.heap.size w w':=by
 have HA:=Lib.hid (zdc X B T s hs M w h hn ht)
 have HF:=Lib.hid (z5r s hn ht)
 clear h hn ht
 obtain ⟨L,hL⟩:∃ L,z2g s.ops = L:=⟨_,rfl⟩
 rw [hL] at HA HF ⊢
 clear hL
 obtain ⟨i0,hi,hz0,hz1,hz2⟩:=info_parts Tryz.infoI32
 have HIF:=Lib.hid hi
 have HZ0:=Lib.hid hz0
 have HZ1:=Lib.hid hz1
 have HZ2:=Lib.hid hz2
 have HR:=Lib.hid HF.out.2.2.1
 obtain ⟨m,hm⟩:∃ m,L.length = m:=⟨_,rfl⟩
 have HM:=Shut.mk hm
 have hm2:m ≤ 1000:=hm ▸ HF.out.1
 clear hi hz0 hz1 hz2 hm
 go_enter Tryz.func31,Tryz.ntmps31
 go_wp2_with (first
  | (refine HA.out.mono ?_;rintro e w1 ⟨v1,rfl,ho1,hb1⟩;obtain ⟨ap,cp,rfl⟩:=ho1.form;have HB1:=Lib.hid hb1;have HP:=Lib.hid ho1;rw [HM.out] at HP ⊢;clear ho1 hb1)
  | (at_make;refine wpList_make_full _ rfl _ _ 34 rfl w1.heap.size 25 i0 _ 32 Tryz.underlying34 HIF.out HZ0.out HZ1.out .i64 .i64 _ _ m rfl rfl rfl rfl (by rw [HZ2.out];omega) (by unfold maxLen;omega) (Nat.le_refl _) ?_))
 intro w2 ho2 hg2
 have HO2:=Lib.hid (OwnI.made ho2)
 have HB2:=Lib.hid ((Below.refl w1.heap.size w1).grown hg2 (Nat.le_refl _) (fun k hk=>by cases hk))
 obtain ⟨gr,hgr⟩:∃ g,w1.heap.size = g:=⟨_,rfl⟩
 have HGR:=Shut.mk hgr
 rw [hgr] at HO2 HB2 ⊢
 clear ho2 hg2 hgr
 go_wp2_with fail
 go_loopw [14] (fun i wr=>∃ k:Nat,i = .int .i64 k ∧ k ≤ m ∧ OwnI gr 25 (.slice (some ⟨gr,0,none⟩) m m) ((L.map z00).take k ++ List.replicate (m - k) (List.replicate 32 0)) wr ∧ Below gr w1 wr) (fun i _=>m - (intOf i).toNat)
 case atStart=>exact ⟨0,rfl,Nat.zero_le _,HO2.out,HB2.out⟩
 case round =>
  obtain ⟨wi,rfl⟩:∃ z,z = wr:=⟨_,rfl⟩
  obtain ⟨k,rfl,hk,ho,hb⟩:=hrel
  have HO:=Lib.hid ho
  have HB:=Lib.hid hb
  clear hb ho HO2 HB2
  by_cases hlt:k < m
  ·have hx:L[k]? = some (L.getD k z05):=by
    rw [List.getD_eq_getElem?_getD,List.getElem?_eq_getElem (by rw [HM.out];exact hlt)]
    rfl
   obtain ⟨gp,rfl,hgp⟩:∃ g,ap = some ⟨g,0,none⟩ ∧ g < w1.heap.size:=by
    rcases HP.out.formB with ⟨_,h2⟩ | ⟨g,c,h2,_,_,h3⟩
    ·have:=HM.out;rw [h2] at this;simp at this;omega
    ·injection h2 with h4 _ _
     exact ⟨g,h4,h3⟩
   have hnx:(L.map z00).getD k [] = z00 (L.getD k z05):=by
    rw [List.getD_eq_getElem?_getD,List.getElem?_map,hx]
    rfl
   have hts:=z6k (L:=L.map z00) (by rw [List.length_map];exact HM.out) hlt
   have hxm:L.getD k z05 ∈ L:=List.mem_of_getElem? hx
   obtain ⟨x,hxe⟩:∃ x,L.getD k z05 = x:=⟨_,rfl⟩
   rw [hxe] at hx hnx hxm
   rw [hnx] at hts
   have HTS:=Shut.mk hts
   have hr:=HR.out x hxm
   have HXR:=Lib.hid hr
   obtain ⟨hgl,pa,pc,q1,q2,q3⟩:=HP.out.get hx
   have HQ1:=Lib.hid (show wi.rangeAt gp (k * 70) (plL x pa pc) by rw [Nat.mul_comm];exact z08 q1 HB.out (by rw [← HGR.out];exact hgl))
   have HSL:=Lib.hid (show (Tryz.prog.info? 99).map (·.size) = some (plL x pa pc).length by rw [z2e hr];exact Tryz.sizePl)
   have HSV:=Lib.hid (show (Tryz.prog.info? 99).map (·.size) = some (plV x pa pc).size by rw [plV,List.size_toArray,z2e hr];exact Tryz.sizePl)
   have HSZ:=Lib.hid (show (opL z05 none 0 ++ z07 .u8 zeroI).toArray.size = (plV x pa pc).size by rw [plV,List.size_toArray,List.size_toArray,z2e hr];rfl)
   have HSA:=Lib.hid (show (plV x pa pc).all (·.oneCell') = true by rw [plV,List.all_toArray];exact List.all_eq_true.2 (z80 x pa pc))
   have HSI:=Lib.hid (show (Tryz.prog.info? 25).map (·.size) = some (z00 x).length by rw [z0p];exact Tryz.sizeI)
   clear hx hts hxe hr q1 q2 q3 hgl hxm hnx
   go_wp2_with (first
    | (refine wpList_load_mid rfl 99 _ rfl gp (k * 70) rfl (plL x pa pc) _ HQ1.out Tryz.underlying99 rfl HSL.out ?_)
    | (refine z0d rfl 99 rfl (opL z05 none 0 ++ z07 .u8 zeroI) Tryz.zeroPl ?_)
    | (refine z02 rfl 99 _ _ rfl rfl wi.heap.size (opL z05 none 0 ++ z07 .u8 zeroI).toArray (plV x pa pc) 99 rfl rfl (heap_alloc_new wi _) HSV.out HSZ.out HSA.out ?_))
   intro w5 hcs hbs
   have hb5:Below wi.heap.size wi w5:=But.toBelow ((Below.refl _ wi).alloc (Nat.le_refl _) _) hbs.out (Nat.le_refl _) (by rw [World.size_alloc];exact Nat.le_succ _)
   have HC5:=Lib.hid (z8l HXR.out hcs.out).2
   have HO5:=Lib.hid (HO.out.below hb5)
   have HB5:=Lib.hid (HB.out.trans (hb5.mono (HGR.out ▸ HB.out.size)))
   have HLN:=Lib.hid (show m = ((L.map z00).take k ++ List.replicate (m - k) (List.replicate 32 0)).length by rw [List.length_append,List.length_take,List.length_replicate,List.length_map,HM.out];omega)
   have HLI:=Lib.hid (show Ids ((L.map z00).take k ++ List.replicate (m - k) (List.replicate 32 0)) from Ids.append (fun y hy=>by
    obtain ⟨o,_,rfl⟩:=List.mem_map.1 (List.mem_of_mem_take hy)
    exact z1v o) (Ids.zeros _))
   have HNO:=Lib.hid (z1v x)
   obtain ⟨nx,hnx⟩:∃ z,z00 x = z:=⟨_,rfl⟩
   rw [hnx] at HC5 HTS HSI HNO
   clear hcs hbs hb5 hnx
   go_wp2_with (first
    | (refine z0a rfl 25 _ rfl wi.heap.size 38 nx _ rfl HC5.out Tryz.underlying25 rfl HSI.out ?_)
    | (refine z2o rfl 25 _ _ rfl rfl gr gr m m k (k * 32) 25 _ nx HLN.out (Nat.mul_comm _ _) rfl rfl HO5.out HLI.out hlt HNO.out.1 HNO.out.2 Tryz.sizeI ?_))
   intro w6 ho6 hb6
   have HO6:=Lib.hid (HTS.out ▸ ho6.out)
   have HB6:=Lib.hid (But.toBelow HB5.out hb6.out (Nat.le_refl _) (HGR.out ▸ HB5.out.size))
   clear ho6 hb6
   go_wp2_with fail
   exact ⟨⟨k + 1,by go_num,by omega,HO6.out,HB6.out⟩,by simp [intOf];omega⟩
  ·obtain rfl:k = m:=by omega
   have HE:=Lib.hid (show (L.map z00).take k ++ List.replicate (k - k) (List.replicate 32 0) = L.map z00 by rw [Nat.sub_self,List.replicate_zero,List.append_nil,List.take_of_length_le (by rw [List.length_map,HM.out];exact Nat.le_refl _)])
   go_wp2_with fail
   go_ret
   exact ⟨_,rfl,OwnI.mono (HE.out ▸ HO.out) (HGR.out ▸ HB1.out.size),HB1.out.trans (HB.out.mono (HGR.out ▸ HB1.out.size))⟩
theorem z5s (s:DagN):((z2g s.ops).map z00).length = s.ops.length:=by rw [List.length_map,(z1e s.ops).length_eq]
theorem z96 (s:DagN):Ids ((z2g s.ops).map z00):=fun x hx=>by
 obtain ⟨o,_,rfl⟩:=List.mem_map.1 hx
 exact z1v o
theorem z1n {P:Program} {o:Oper} {a:Act} {C:World → Prop} {K:Act → Prop} (ty:TypeId) (x y:Operand) (ho:o.op = .indexAddr ty x y) (vx vy:Value) (q:Addr) (hx:a.eval x = vx) (hy:a.eval y = vy) (hr:∀ w,(Instr.indexAt ty vx vy).run P w = .ok (.pointer (some q)) w) (hk:K (a.put o.dst (.pointer (some q)))):o.quiet P a C K:=by
 refine ⟨_,fun w _=>?_,hk⟩
 unfold Oper.quietAt execOp
 simp only [ho,hx,hy,Sem.run_bind,hr w,Result.andThen_ok,Sem.run_pure]
 exact ⟨rfl,rfl⟩
theorem sub_one (q:Nat) (hq:q ≤ 100000) (w:World):(binOp .sub 3 (.int .i64 ((q + 1:Nat):Int)) (.int .i64 1)).run Tryz.prog w = .ok (.int .i64 (q:Int)) w:=by
 go_simp
 rw [IntWalk.i64_left]
 unfold wrap64
 omega
theorem gtr_zero (q:Nat) (w:World):(binOp .gtr 3 (.int .i64 ((q + 1:Nat):Int)) (.int .i64 0)).run Tryz.prog w = .ok (.bool true) w:=by
 go_simp
theorem gtr_no (w:World):(binOp .gtr 3 (.int .i64 ((0:Nat):Int)) (.int .i64 0)).run Tryz.prog w = .ok (.bool false) w:=by
 go_simp
namespace lineDepths
theorem walk (W:World) (hk:KAt W) (ao:Option Addr) (l:List MakeN) (c:Nat) (hs:MksAt ao l W) (hn:∀ x ∈ l,x.In) (ht:l.length ≤ 140737488351232) :
 Calls Tryz.prog 9 #[.slice ao l.length c] W fun e W'=>e = .returned (.bool true) ∧ Below W.heap.size W W':=by
 have HAL:=Lib.hid (zdd W hk)
 have HBO:=Lib.hid (fun w1 (b:Below W.heap.size W w1)=>zi6 W ao l c w1 hs hn ht b (hk.below b))
 have HSO:=Lib.hid (show (Tryz.prog.info? 38).bind (·.zero) = some (.agg (opL z05 none 0).toArray) by kernel_rfl)
 obtain ⟨nl,hnl⟩:∃ i,l.length = i:=⟨_,rfl⟩
 rw [hnl] at HBO ⊢
 clear hs hn ht hk hnl
 go_enter Tryz.func9,Tryz.ntmps9
 go_wp2_with fail
 refine HAL.out.mono ?_
 rintro e w1 ⟨rfl,hb1⟩
 have HB1:=Lib.hid hb1
 clear hb1
 go_wp2_with fail
 refine (HBO.out w1 HB1.out).mono ?_
 rintro e w2 ⟨Z,X,B,gs,T,s,hs,M,vo,vw,vn,vq,rfl,hset,hinv,htm,hdp,hgd,href,hb2⟩
 have HSET:=Lib.hid hset
 have HINV:=Lib.hid hinv
 have HTM:=Lib.hid htm
 have HB2:=Lib.hid (HB1.out.trans (hb2.mono HB1.out.size))
 have HOR:=Lib.hid (z7e X B T s hs M w2 hset hinv.nodupN htm)
 obtain ⟨R,hR⟩:∃ z,z2g s.ops = z:=⟨_,rfl⟩
 have hml:=z5s s
 have hmi:=z96 s
 have hrf:=z5r s hinv.nodupN htm
 have hrr:Rows (z2g s.ops):=z4t hinv.nodupN fun o _=>z0p o
 have hrp:=z1e s.ops
 rw [hR] at HOR hml hmi hrf hrr hrp
 have HR:=Shut.mk hR
 have HROW:=Lib.hid (fun w' (b:Below w2.heap.size w2 w')=>show Calls Tryz.prog 33 #[.pointer (some ⟨B.gs,0,none⟩)] w' fun e w''=>∃ v,e = .returned v ∧ OwnO w'.heap.size 38 v R w'' ∧ Below w'.heap.size w' w'' from hR ▸ zgy X B T s hs M w' (hset.below b) hinv.nodupN htm)
 have HID:=Lib.hid hmi
 have HRR:=Lib.hid hrr
 have HRP:=Lib.hid hrp
 have HFI:=Lib.hid hrf.2.1
 have HOL:=Lib.hid (show s.ops.length ≤ 1000 by have:=htm.many;omega)
 obtain ⟨m,hm⟩:∃ z,s.ops.length = z:=⟨_,rfl⟩
 rw [hm] at HOL hml
 have HL:=Shut.mk hml
 have HRL:=Shut.mk (show R.length = m by rw [← hml,List.length_map])
 have hm2:m ≤ 1000:=HOL.out
 clear hset hinv htm hdp hgd href hb2 hml hmi hrf hrr hrp HBO HAL hm hR
 go_wp2_with (first
  | (refine HOR.out.mono ?_;rintro e w3 ⟨v3,rfl,ho3,hb3⟩;obtain ⟨ap,cp,rfl⟩:=ho3.form;rw [HL.out] at ho3 ⊢;have HO3:=Lib.hid ho3;have HB3:=Lib.hid hb3;clear ho3 hb3)
  | (refine (HROW.out w3 HB3.out).mono ?_;rintro e w4 ⟨v4,rfl,ho4,hb4⟩;obtain ⟨ar,cr,rfl⟩:=ho4.form;rw [HRL.out] at ho4 ⊢;have HO4:=Lib.hid ho4;have HB4:=Lib.hid hb4;clear ho4 hb4))
 have HIA:=Lib.hid ((HO3.out.at HID.out).below HB4.out)
 have HOA:=Lib.hid HO4.out.at
 have HB24:=Lib.hid (HB3.out.trans (HB4.out.mono HB3.out.size))
 go_loopw [29] (fun i wr=>∃ k:Nat,i = .int .i64 k ∧ k ≤ m ∧ Below w4.heap.size w4 wr) (fun i _=>m - (intOf i).toNat)
 case atStart=>exact ⟨0,rfl,Nat.zero_le _,Below.refl _ _⟩
 case round =>
  obtain ⟨wi,rfl⟩:∃ z,z = wr:=⟨_,rfl⟩
  obtain ⟨k,rfl,hk,hb⟩:=hrel
  have HBM:=Lib.hid hb
  have HIW:=Lib.hid (HIA.out.below hb)
  have HOW:=Lib.hid (HOA.out.below hb)
  clear hb
  by_cases hlt:k < m
  ·obtain ⟨o,ho⟩:∃ o,R[k]? = some o:=⟨_,List.getElem?_eq_getElem (by rw [HRL.out];exact hlt)⟩
   have HOK:=Lib.hid ho
   have hom:=List.mem_of_getElem? ho
   have HF:=Lib.hid (HFI.out o hom)
   obtain ⟨br,rr,rfl,hbr,pa,pc,r1,i1⟩:=HOW.out.get ho
   obtain ⟨b,ob,rfl,hbl⟩:=HIW.out.some (by rw [HL.out];omega)
   have g1:=HIW.out.get (i:=k) (by rw [HL.out];omega)
   have hnx:(R.map z00).getD k [] = z00 o:=by
    rw [List.getD_eq_getElem?_getD,List.getElem?_map,ho]
    rfl
   rw [hnx] at g1
   have hin:z00 o ∈ s.names:=List.mem_map.2 ⟨o,HRP.out.mem_iff.1 hom,rfl⟩
   have hof:zeo s.ops (z00 o) = o:=ze5 HINV.out.nodupN (HRP.out.mem_iff.1 hom)
   have HGT:=Lib.hid (fun w' (q:Below w2.heap.size w2 w')=>zci X B T s hs M (z00 o) w' (HSET.out.below q) hin HINV.out.nodupN HTM.out o hof)
   have HRW:=Lib.hid r1
   have HIO:=Lib.hid i1
   have HG1:=Lib.hid g1
   have HNL:=Lib.hid (z0p o)
   obtain ⟨x,hx⟩:∃ x,z00 o = x:=⟨_,rfl⟩
   rw [hx] at HGT HG1 HNL
   have HS1:=Lib.hid (show (Tryz.prog.info? 25).map (·.size) = some x.length by rw [HNL.out];exact Tryz.sizeI)
   have HSL:=Lib.hid (fun (qa:Option Addr) (qc:Nat)=>show (Tryz.prog.info? 38).map (·.size) = some (opL o qa qc).length by rw [z16 HF.out.d.ref.1];exact Tryz.sizeO)
   have HSV:=Lib.hid (fun (qa:Option Addr) (qc:Nat)=>show (Tryz.prog.info? 38).map (·.size) = some (opV o qa qc).size by rw [z0b HF.out.d.ref.1];exact Tryz.sizeO)
   have HSZ:=Lib.hid (fun (qa:Option Addr) (qc:Nat)=>show (opL z05 none 0).toArray.size = (opV o qa qc).size by rw [z0b HF.out.d.ref.1];rfl)
   clear ho hom hbr r1 i1 g1 hnx hin hof hx hbl
   go_wp2_with (first
    | (refine wpList_load_mid rfl 38 _ rfl br (rr + k * 38) rfl (opL o pa pc) _ HRW.out Tryz.underlying38 rfl (HSL.out pa pc) ?_)
    | (refine z0d rfl 38 rfl (opL z05 none 0) HSO.out ?_)
    | (refine z02 rfl 38 _ _ rfl rfl wi.heap.size (opL z05 none 0).toArray (opV o pa pc) 38 rfl rfl (heap_alloc_new wi _) (HSV.out pa pc) (HSZ.out pa pc) (z1i o pa pc) ?_))
   intro w5 hcs hbs
   have hb5:Below wi.heap.size wi w5:=But.toBelow ((Below.refl _ wi).alloc (Nat.le_refl _) _) hbs.out (Nat.le_refl _) (by rw [World.size_alloc];exact Nat.le_succ _)
   have HC5:=Lib.hid (show Cells wi.heap.size 38 (opV o pa pc) w5 from hcs.out)
   have HB5:=Lib.hid (HBM.out.trans (hb5.mono HBM.out.size))
   have HIO5:=Lib.hid (HIO.out.below hb5)
   have HG5:=Lib.hid (z08 HG1.out hb5 (HIW.out.lt (L:=R.map z00) (fun e=>by have:=HL.out;rw [e] at this;simp at this;omega) rfl))
   obtain ⟨g8,hg8⟩:∃ z,wi.heap.size = z:=⟨_,rfl⟩
   rw [hg8] at HC5 ⊢
   clear hcs hbs hb5 hg8 HRW HIO HG1
   have HG6:=Lib.hid (HGT.out w5 (HB24.out.trans (HB5.out.mono HB24.out.size)))
   go_wp2_with (first
    | (refine z0a rfl 25 _ rfl b (ob + k * 32) x _ rfl HG5.out Tryz.underlying25 rfl HS1.out ?_)
    | (refine HG6.out.mono ?_;rintro e w6 ⟨qa,qc,rfl,ho6,hb6⟩;have HO6:=Lib.hid ho6;have HB6:=Lib.hid hb6;clear ho6 hb6)
    | (refine z0d rfl 38 rfl (opL z05 none 0) HSO.out ?_)
    | (refine z02 rfl 38 _ _ rfl rfl w6.heap.size (opL z05 none 0).toArray (opV o qa qc) 38 rfl rfl (heap_alloc_new w6 _) (HSV.out qa qc) (HSZ.out qa qc) (z1i o qa qc) ?_))
   intro w7 hcs hbs
   have hb67:Below w6.heap.size w6 w7:=But.toBelow ((Below.refl _ w6).alloc (Nat.le_refl _) _) hbs.out (Nat.le_refl _) (by rw [World.size_alloc];exact Nat.le_succ _)
   have hb57:=HB6.out.trans (hb67.mono HB6.out.size)
   have HC7:=Lib.hid (show Cells w6.heap.size 38 (opV o qa qc) w7 from hcs.out)
   have HC57:=Lib.hid (HC5.out.below hb57)
   have HB7:=Lib.hid (HB5.out.trans (hb57.mono HB5.out.size))
   have HIO7:=Lib.hid (HIO5.out.below hb57)
   have HIX7:=Lib.hid ((HO6.out.below hb67).at HF.out.preds)
   have HSM:=Lib.hid (show Calls Tryz.prog 20 #[.agg (opV o qa qc),.agg (opV o pa pc)] w7 fun e w'=>e = .returned (.bool true) ∧ Below w7.heap.size w7 w' from
    (show decide (o = o) = true from decide_eq_true rfl) ▸ z57 o o qa pa qc pc w7 HF.out.ok HF.out.ok HIX7.out HIO7.out (by have:=HF.out.many;omega) (by have:=HF.out.many;omega))
   obtain ⟨g9,hg9⟩:∃ z,w6.heap.size = z:=⟨_,rfl⟩
   rw [hg9] at HC7 ⊢
   clear hcs hbs hb67 hb57 hg9 HC5 HIO5 HG5 HG6
   go_wp2_with (first
    | (refine z1b (by rfl) 38 (.tmp 9) rfl g9 (opV o qa qc) 38 _ rfl HC7.out Tryz.underlying38 rfl (HSV.out qa qc) ?_)
    | (refine z1b (by rfl) 38 (.tmp 8) rfl g8 (opV o pa pc) 38 _ rfl HC57.out Tryz.underlying38 rfl (HSV.out pa pc) ?_)
    | (refine HSM.out.mono ?_;rintro e w8 ⟨rfl,hb8⟩;have HB8:=Lib.hid (HB7.out.trans (hb8.mono HB7.out.size));have HC8:=Lib.hid (HC57.out.below hb8);have HIO8:=Lib.hid (HIO7.out.below hb8);clear hb8))
   cases k with
   | zero =>
     go_upto_region 13 with (fail)
     refine z09 (fun w'=>Below w4.heap.size w4 w') (by kernel_rfl) (by kernel_rfl) (HB8.out).drew ?_
     repeat (first
      | go_big_quiet_skip
      | (go_big_quiet_want;refine z2m .gtr 3 3 _ _ rfl _ _ _ rfl rfl (fun w=>rfl) gtr_no ?_;go_big_quiet_on;simp only [Act.put,zS,zA,zB])
      | go_big_quiet_step ((intro hs';rfl)))
     refine wpQuiet_nil ?_
     intro w9 hs9
     have HB9:=Lib.hid hs9
     clear hs9
     go_wp2_with fail
     exact ⟨⟨1,by go_num,by omega,HB9.out⟩,by simp [intOf];omega⟩
   | succ q =>
     obtain ⟨y,hy⟩:∃ y,R[q]? = some y:=⟨_,List.getElem?_eq_getElem (by rw [HRL.out];omega)⟩
     have hbf:=zh8 HRR.out hy HOK.out (Nat.lt_succ_self q)
     have HFY:=Lib.hid (HFI.out y (List.mem_of_getElem? hy))
     obtain ⟨b2,o2,e2,hb2,pb,pd,r2,i2⟩:=HOA.out.get hy
     cases e2
     have HR2:=Lib.hid (fun w' (q':Below w4.heap.size w4 w')=>z08 r2 q' hb2)
     have HSY:=Lib.hid (show (Tryz.prog.info? 38).map (·.size) = some (opL y pb pd).length by rw [z16 HFY.out.d.ref.1];exact Tryz.sizeO)
     have HCA:=Lib.hid (fun w' (q':Below w8.heap.size w8 w')=>HC8.out.below q')
     have HBE:=Lib.hid (fun w' (q':Below w8.heap.size w8 w')=>show Calls Tryz.prog 40 #[.agg (opV y pb pd),.agg (opV o pa pc)] w' fun e w''=>e = .returned (.bool true) ∧ Below w'.heap.size w' w'' from
      hbf ▸ z9s y o pb pa pd pc w' HFY.out HF.out (i2.below (HB8.out.trans (q'.mono HB8.out.size))) (HIO8.out.below q'))
     have HRB:=Lib.hid (fun w' (q':Below w8.heap.size w8 w')=>HR2.out w' (HB8.out.trans (q'.mono HB8.out.size)))
     have HIX:=Lib.hid (fun w'=>z3d br rr m cr q (by omega) w')
     have HSU:=Lib.hid (fun w'=>sub_one q (by omega) w')
     clear hy hbf hb2 r2 i2 HR2
     go_upto_region 13 with (fail)
     refine z09 (fun w'=>Below w8.heap.size w8 w') (by kernel_rfl) (by kernel_rfl) (Below.refl _ _).drew ?_
     repeat (first
      | go_big_quiet_skip
      | (go_big_quiet_want;refine z2m .gtr 3 3 _ _ rfl _ _ _ rfl rfl (fun w=>rfl) (gtr_zero q) ?_;go_big_quiet_on;simp only [Act.put,zS,zA,zB])
      | (go_big_quiet_want;refine z2m .sub 3 3 _ _ rfl _ _ _ rfl rfl (fun w=>rfl) HSU.out ?_;go_big_quiet_on;simp only [Act.put,zS,zA,zB])
      | (go_big_quiet_want;refine z1n 29 _ _ rfl _ _ _ rfl rfl HIX.out ?_;go_big_quiet_on;simp only [Act.put,zS,zA,zB])
      | (go_big_quiet_want;refine z14 38 _ rfl br (rr + q * 38) (opL y pb pd) _ rfl HRB.out Tryz.underlying38 rfl HSY.out ?_;go_big_quiet_on;simp only [Act.put,zS,zA,zB])
      | (go_big_quiet_want;refine z0k 38 _ rfl g8 (opV o pa pc) 38 _ rfl HCA.out Tryz.underlying38 rfl (HSV.out pa pc) ?_;go_big_quiet_on;simp only [Act.put,zS,zA,zB])
      | go_big_quiet_step ((intro hs';first
       | (go_at_call 40;exact (HBE.out _ hs').mono fun e w' h=>⟨h.1,hs'.trans (h.2.mono hs'.size)⟩)
       | rfl)))
     refine wpQuiet_nil ?_
     intro w9 hs9
     have HB9:=Lib.hid (HB8.out.trans (hs9.mono HB8.out.size))
     clear hs9
     go_wp2_with fail
     exact ⟨⟨q + 1 + 1,by go_num,by omega,HB9.out⟩,by simp [intOf];omega⟩
  ·obtain rfl:k = m:=by omega
   have HBF:=Lib.hid (HB2.out.trans ((HB24.out.trans (HBM.out.mono HB24.out.size)).mono HB2.out.size))
   go_wp2_with fail
   go_ret
   exact ⟨rfl,HBF.out⟩
end lineDepths
end Go.Proofs.YtnbldbbbibpobaaGreatDoor
namespace Go.Proofs.YtnbldbbbibpobaaGreatDoor.lineDepths
open Go.ChangeShapes Go.WideShapes Go.ChangeAt Go.RowKit
open Go.ChangeMaps (open_string shut_string)
set_option linter.unusedVariables false
theorem z64 (os:Os):laidMet Tryz.prog Rows.lineDepthsRow.laid ((z2a os).forCall (fun _ _=>0) ⟨#[],#[.slice none 0 0],[]⟩).memory :=
 laidMet_of_run' 8 (by kernel_rfl) (by kernel_rfl)
theorem reads (os:Os) {H:Type} (enc:TypeId × Value → H):∃ x,DataW.whole enc Tryz.prog ((z2a os).forCall (fun _ _=>0) ⟨#[],#[.slice none 0 0],[]⟩).memory Tryz.f9.params.toList Rows.lineDepthsSpec.vars false (#[.slice none 0 0]:Array Value).toList 8 = some x :=
 ⟨([.nil],[],[]),by kernel_rfl⟩
theorem lifted (os:Os) (started:os.Started) (H:Type) (enc:TypeId × Value → H) (F:Stop.Interp) :
 ReturnsInHanded {} Tryz.checked os 9 .any ((OpenSpec.ofChange Rows.lineDepthsSpec).preRow enc Tryz.prog Tryz.f9 Rows.lineDepthsRow.domain false Rows.lineDepthsRow.laid) (((OpenSpec.ofChange Rows.lineDepthsSpec).at F).post enc Tryz.prog Tryz.f9 false true false false):=by
 obtain ⟨x,hx⟩:=reads os enc
 refine returnsInHanded_of_row (C:=Tryz.checked) (s:=OpenSpec.ofChange Rows.lineDepthsSpec) zdu started (by kernel_rfl) Tryz.func9
  (witness_row_at (enc:=enc) (C:=Tryz.checked) false (z2a os) #[.slice none 0 0] rfl (by kernel_rfl) (by kernel_rfl) (by kernel_rfl)
   (OpenSpec.preRow_of_cond 8 hx rfl (fun k hk=>by cases hk) (by kernel_rfl) (z64 os))) ?_
 intro W base args ds gs before hval0 hW hcnd _ hsz0 hL _ _
 have hk:KAt W:=zit hL
 have hsz:(DataW.weightsEach Tryz.prog (Tryz.f9.params.toList ++ (OpenSpec.ofChange Rows.lineDepthsSpec).bare.plain.varTypes Tryz.prog) (ds ++ gs)).all (· ≤ reachBytes) = true:=hsz0
 have hval:∀ (j:Nat) t v,Tryz.f9.params[j]? = some t → args[j]? = some v → Value.okWide Tryz.prog W .any base t v:=hval0
 have hW':=hW
 obtain ⟨p,q,hA0,hV,rfl,hfz,hnd⟩:=hW
 have hA:DataW.TrodAll enc Tryz.prog W 0 (fun _=>true) true Tryz.f9.params.toList args.toList ds p:=hA0
 rw [Tryz.params9] at hA hval hsz
 obtain ⟨v0,vs0,d0,ds0,p0,q0,hargs,rfl,rfl,h0,r0⟩:=trodAll_cons hA
 obtain ⟨rfl,rfl,rfl⟩:=trodAll_nil r0
 obtain rfl:args = #[v0]:=by cases args;simp_all
 obtain ⟨rfl,rfl⟩:=trodVars_none hV
 have k0:=h0
 have lt0:∀ x ∈ p0,x.block < W.heap.size:=by obtain ⟨m,hm⟩:=k0;exact DataW.trod_lt m _ _ _ hm
 have z0:∀ n ∈ DataW.weights Tryz.prog 22 d0,n ≤ 140737488351232:=fun n hn=>of_decide_eq_true (List.all_eq_true.1 hsz n (DataW.weights_mem_each (j:=0) (t:=22) rfl rfl n hn))
 obtain ⟨ao0,l0,c0,rfl,s0,n0,t0⟩:=z7k (hval 0 22 v0 rfl rfl) h0 z0
 clear hA0 hval0
 refine (walk W hk ao0 l0 c0 s0 n0 t0).mono fun e W' ⟨he,bel⟩=>?_
 subst he
 exact ⟨_,rfl,_,_,_,[],_,[],hW',trodAll_mk1 (shut_bool Tryz.underlying4 _),(trodAll_cons_mk (Below.trod z4z (by kernel_rfl) (of_decide_eq_true (by kernel_rfl)) k0 bel lt0) trodAll_mk0),rfl,bel.frame _,fun h=>by cases h⟩
theorem said:Rows.LineDepthsSaid :=
 OpenClaim.holds_of_cond 9 Tryz.f9 rfl rfl rfl rfl rfl rfl rfl ⟨rfl,rfl,rfl,rfl,rfl⟩ rfl rfl rfl rfl rfl (by kernel_rfl) Tryz.func9 (by kernel_rfl)
  (of_decide_eq_true (by kernel_rfl)) (by unfold Func.isWrapper;first | (rw [if_pos (by decide +kernel)];kernel_rfl) | (rw [if_neg (by decide +kernel)];exact ⟨rfl,rfl⟩))
  (fun os started H enc _ F=>by rw [OpenClaim.pre_eq_preRow];exact lifted os started H enc F)
theorem plain (f : FuncId) (fn : Func) (hf : Tryz.pinned.checked.prog.funcNamed "tribunal/tribunallaw11.LineDepths" = some f) (hfn : Tryz.pinned.checked.prog.funcs[f]? = some fn) :
 true = Tryz.pinned.checked.prog.looks [] ∧ ∀ (j:Nat) t,fn.params[j]? = some t → Tryz.pinned.checked.prog.wantsStandIn t = false:=by
 obtain rfl : f = 9 := Option.some.inj ((show Tryz.prog.funcNamed "tribunal/tribunallaw11.LineDepths" = some 9 by kernel_rfl).symm.trans hf) |>.symm
 obtain rfl:fn = Tryz.f9:=(Option.some.inj (Tryz.func9.symm.trans hfn)).symm
 refine ⟨by kernel_rfl,fun j t ht=>?_⟩
 have hall:Tryz.f9.params.toList.all (fun t=>!Tryz.prog.wantsStandIn t) = true:=by kernel_rfl
 have hm:t ∈ Tryz.f9.params.toList:=Array.mem_toList_iff.2 (Array.mem_of_getElem? ht)
 have h0:=List.all_eq_true.1 hall t hm
 have h1:Tryz.prog.wantsStandIn t = false:=by simpa using h0
 exact h1
theorem proved:Rows.LineDepthsCardSaid :=
 Claim7.holds_tied_plain_at .later [] _ _ _ _ said (fun _ h=>by cases h) (by kernel_rfl) (fun _ h=>by cases h) lineDepths_row_tie rfl ⟨rfl,rfl⟩ (by kernel_rfl) rfl plain (by kernel_rfl)
#print axioms proved
end Go.Proofs.YtnbldbbbibpobaaGreatDoor.lineDepths
